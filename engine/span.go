package engine

import (
	"sqlproof/api"
	"sqlproof/data"
	"sqlproof/syntax"
)

// span is a lowest and a highest key; it has no keys, if the lowest is above the
// highest (P12).
type span struct {
	low  int64
	high int64
}

// sides are the span of a condition, and that of its contrary: so "not" has nothing
// to work out.
type sides struct {
	is    span
	isNot span
}

func allKeys() span {
	return span{low: api.Low, high: api.High}
}

func (s span) hasKeys() bool {
	return s.low <= s.high
}

// both is the span of an "and".
func both(a span, b span) span {
	if b.low > a.low {
		a.low = b.low
	}
	if b.high < a.high {
		a.high = b.high
	}
	return a
}

// either is the span of an "or".
func either(a span, b span) span {
	if !a.hasKeys() {
		return b
	}
	if !b.hasKeys() {
		return a
	}
	if b.low < a.low {
		a.low = b.low
	}
	if b.high > a.high {
		a.high = b.high
	}
	return a
}

// spanPile is the sides of what the steps of a condition have joined so far.
type spanPile struct {
	list []sides
}

func (p *spanPile) push(s sides) {
	p.list = append(p.list, s)
}

// pop answers all keys from an empty pile, as where there is no condition.
func (p *spanPile) pop() sides {
	top := len(p.list) - 1
	if top < 0 {
		return sides{is: allKeys(), isNot: allKeys()}
	}
	s := p.list[top]
	p.list = p.list[:top]
	return s
}

func (p *spanPile) join(op string) {
	right := p.pop()
	if op == "not" {
		p.push(sides{is: right.isNot, isNot: right.is})
		return
	}
	left := p.pop()
	if op == "and" {
		p.push(sides{is: both(left.is, right.is), isNot: either(left.isNot, right.isNot)})
	} else {
		p.push(sides{is: either(left.is, right.is), isNot: both(left.isNot, right.isNot)})
	}
}

// spanOf is the span of a condition in a table of such columns.
func spanOf(columns []data.Column, where []syntax.Step) span {
	var p spanPile
	for i := 0; i < len(where); i++ {
		if where[i].Compares() {
			s := sidesOf(columns, where[i])
			p.push(s)
		} else {
			p.join(where[i].Op)
		}
	}
	return p.pop().is
}

func sidesOf(columns []data.Column, step syntax.Step) sides {
	if isKey(columns, step.Left) && isNumber(step.Right) {
		return keySides(step.Op, step.Right.Literal.Number)
	}
	if isNumber(step.Left) && isKey(columns, step.Right) {
		return keySides(mirrored(step.Op), step.Left.Literal.Number)
	}
	return sides{is: allKeys(), isNot: allKeys()}
}

func isKey(columns []data.Column, term syntax.Term) bool {
	return term.Column != "" && data.Find(columns, term.Column) == 0
}

func isNumber(term syntax.Term) bool {
	return term.Column == "" && term.Literal.Kind == data.Int
}

// keySides are those of a comparison of the key, on the left, with a number.
func keySides(op string, number int64) sides {
	return sides{is: keysThat(op, number), isNot: keysThat(contrary(op), number)}
}

func keysThat(op string, number int64) span {
	s := allKeys()
	switch op {
	case "=":
		s = span{low: number, high: number}
	case "<":
		s.high = number - 1
	case "<=":
		s.high = number
	case ">":
		s.low = number + 1
	case ">=":
		s.low = number
	}
	return s
}

// mirrored is the sign of a comparison whose sides have changed places.
func mirrored(op string) string {
	switch op {
	case "<":
		return ">"
	case "<=":
		return ">="
	case ">":
		return "<"
	case ">=":
		return "<="
	}
	return op
}

// contrary is the sign of a comparison that tells the contrary.
func contrary(op string) string {
	switch op {
	case "=":
		return "<>"
	case "<>":
		return "="
	case "<":
		return ">="
	case "<=":
		return ">"
	case ">":
		return "<="
	}
	return "<"
}
