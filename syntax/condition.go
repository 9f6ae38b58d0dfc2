package syntax

func (p *parser) where() {
	if p.accept("where") {
		p.or()
	}
}

func (p *parser) or() {
	p.and()
	for p.accept("or") {
		p.and()
		p.step(Step{Op: "or"})
	}
}

func (p *parser) and() {
	p.not()
	for p.accept("and") {
		p.not()
		p.step(Step{Op: "and"})
	}
}

// not calls itself only behind a word that it has stepped over.
func (p *parser) not() {
	if p.accept("not") {
		p.not()
		p.step(Step{Op: "not"})
	} else if p.accept("(") {
		p.or()
		p.want(")")
	} else {
		p.comparison()
	}
}

func (p *parser) comparison() {
	left := p.term()
	sign := p.mark()
	if !isComparison(sign) {
		p.bad = true
	}
	right := p.term()
	p.step(Step{Op: sign, Left: left, Right: right})
}

func (p *parser) step(step Step) {
	p.out.Where = append(p.out.Where, step)
}

func isComparison(sign string) bool {
	switch sign {
	case "=", "<>", "<", "<=", ">", ">=":
		return true
	}
	return false
}

// Compares tells whether a step is a comparison; else it joins what lies ahead
// of it.
func (s Step) Compares() bool { return isComparison(s.Op) }
