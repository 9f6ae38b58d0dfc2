package engine

import (
	"sqlproof/data"
	"sqlproof/store"
	"sqlproof/syntax"
)

// meeting is those of the rows that meet a condition, in their order.
func meeting(columns []data.Column, rows []store.Row, where []syntax.Step) []store.Row {
	var found []store.Row
	for i := 0; i < len(rows); i++ {
		if meets(columns, rows[i], where) {
			found = append(found, rows[i])
		}
	}
	return found
}

// pile is what the steps of a condition have told so far.
type pile struct {
	told []bool
}

func (p *pile) push(told bool) {
	p.told = append(p.told, told)
}

// pop answers false from an empty pile; no condition of a statement comes there.
func (p *pile) pop() bool {
	top := len(p.told) - 1
	if top < 0 {
		return false
	}
	told := p.told[top]
	p.told = p.told[:top]
	return told
}

// join puts what "not", "and" or "or" tells in the place of what it joins.
func (p *pile) join(op string) {
	right := p.pop()
	if op == "not" {
		p.push(!right)
		return
	}
	left := p.pop()
	if op == "and" {
		p.push(left && right)
	} else {
		p.push(left || right)
	}
}

// meets tells whether a row meets a condition; where there is none it does.
func meets(columns []data.Column, row store.Row, where []syntax.Step) bool {
	if len(where) == 0 {
		return true
	}
	var p pile
	for i := 0; i < len(where); i++ {
		if where[i].Compares() {
			told := compared(columns, row, where[i])
			p.push(told)
		} else {
			p.join(where[i].Op)
		}
	}
	return p.pop()
}

func compared(columns []data.Column, row store.Row, step syntax.Step) bool {
	left := valueOf(columns, row, step.Left)
	right := valueOf(columns, row, step.Right)
	side := left.Compare(right)
	switch step.Op {
	case "=":
		return side == 0
	case "<>":
		return side != 0
	case "<":
		return side < 0
	case "<=":
		return side <= 0
	case ">":
		return side > 0
	}
	return side >= 0
}

// valueOf is what a term is in a row.
func valueOf(columns []data.Column, row store.Row, term syntax.Term) data.Value {
	if term.Column == "" {
		return term.Literal
	}
	return cellAt(row, data.Find(columns, term.Column))
}

// cellAt is the value of a column, by its number.
func cellAt(row store.Row, number int) data.Value {
	if number < 0 || number >= len(row.Cells) {
		return data.Value{}
	}
	return row.Cells[number]
}
