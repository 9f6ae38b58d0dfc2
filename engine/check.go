package engine

import (
	"sqlproof/api"
	"sqlproof/data"
	"sqlproof/syntax"
)

// check tells the first error that hangs on names, counts and kinds alone (P5,
// 3 and 4), for a statement whose table is there.
func check(columns []data.Column, statement syntax.Statement) api.Errno {
	e := api.OK
	switch statement.Act {
	case syntax.Insert:
		e = checkValues(columns, statement.Values)
	case syntax.Update:
		e = checkSets(columns, statement.Sets)
	case syntax.Select:
		e = checkItems(columns, statement)
	}
	if e != api.OK {
		return e
	}
	return checkWhere(columns, statement.Where)
}

func checkValues(columns []data.Column, values []data.Value) api.Errno {
	if len(values) != len(columns) {
		return api.ErrCount
	}
	for i := 0; i < len(values); i++ {
		if values[i].Kind != columns[i].Kind {
			return api.ErrType
		}
	}
	return api.OK
}

func checkSets(columns []data.Column, sets []syntax.Set) api.Errno {
	for i := 0; i < len(sets); i++ {
		e := checkSet(columns, sets[:i], sets[i])
		if e != api.OK {
			return e
		}
	}
	return api.OK
}

// checkSet looks at one assignment; earlier are those to its left.
func checkSet(columns []data.Column, earlier []syntax.Set, set syntax.Set) api.Errno {
	at := data.Find(columns, set.Column)
	if at < 0 || at >= len(columns) {
		return api.ErrName
	}
	if at == 0 {
		return api.ErrKey
	}
	for i := 0; i < len(earlier); i++ {
		if earlier[i].Column == set.Column {
			return api.ErrTwice
		}
	}
	return checkSum(columns, columns[at].Kind, set)
}

// checkSum looks at what is to go into a column of the target's kind.
func checkSum(columns []data.Column, target data.Kind, set syntax.Set) api.Errno {
	first, ok := kindOf(columns, set.First)
	if !ok {
		return api.ErrName
	}
	if first != target {
		return api.ErrType
	}
	if set.Sign == "" {
		return api.OK
	}
	second, ok := kindOf(columns, set.Second)
	if !ok {
		return api.ErrName
	}
	if first == data.Text || second == data.Text {
		return api.ErrType
	}
	return api.OK
}

func checkItems(columns []data.Column, statement syntax.Statement) api.Errno {
	for i := 0; i < len(statement.Items); i++ {
		kind, ok := columnKind(columns, statement.Items[i])
		if !ok {
			return api.ErrName
		}
		if statement.Show == syntax.Sum && kind == data.Text {
			return api.ErrType
		}
	}
	return api.OK
}

// checkWhere looks at every comparison, also where another one already settles
// what the condition tells.
func checkWhere(columns []data.Column, where []syntax.Step) api.Errno {
	for i := 0; i < len(where); i++ {
		if !where[i].Compares() {
			continue
		}
		left, ok := kindOf(columns, where[i].Left)
		if !ok {
			return api.ErrName
		}
		right, ok := kindOf(columns, where[i].Right)
		if !ok {
			return api.ErrName
		}
		if left != right {
			return api.ErrType
		}
	}
	return api.OK
}

// kindOf is false, if the term names no column.
func kindOf(columns []data.Column, term syntax.Term) (data.Kind, bool) {
	if term.Column == "" {
		return term.Literal.Kind, true
	}
	return columnKind(columns, term.Column)
}

func columnKind(columns []data.Column, name string) (data.Kind, bool) {
	at := data.Find(columns, name)
	if at < 0 || at >= len(columns) {
		return data.Int, false
	}
	return columns[at].Kind, true
}
