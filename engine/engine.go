// Package engine answers statements over a tree (P5 to P8, P10, P12).
package engine

import (
	"strconv"

	"sqlproof/api"
	"sqlproof/data"
	"sqlproof/store"
	"sqlproof/syntax"
	"sqlproof/tree"
)

// outcome is the reply to a statement and what the statement turns. That the two
// come ahead of any turn lets a refused update leave no row half done.
type outcome struct {
	reply string
	makes bool        // the table is made
	table store.Table // the table that is made, or whose rows turn
	puts  []store.Row // in the order in which they are put
	cuts  []int64     // the keys of rows, in the order in which these are deleted
}

// Run is the reply to a statement, and the tree as the statement leaves it. The
// trail tells what was touched of the tree, and whether the rest can be trusted.
func Run(root tree.Node, sql string, trail *tree.Trail) (string, tree.Node) {
	s := store.Store{Tree: root}
	o := decide(s, sql, trail)
	next := apply(s, o, trail)
	return o.reply, next.Tree
}

// decide finds the outcome of a statement and turns nothing.
func decide(s store.Store, sql string, trail *tree.Trail) outcome {
	statement, e := syntax.Parse(sql)
	if e != api.OK {
		return refused(e)
	}
	tables := s.Tables(trail)
	if statement.Act == syntax.Create {
		return create(tables, s.Size(), statement)
	}
	table, there := store.Find(tables, statement.Table)
	if !there {
		return refused(api.ErrName)
	}
	e = check(table.Columns, statement)
	if e != api.OK {
		return refused(e)
	}
	if statement.Act == syntax.Insert {
		return insert(s, table, statement.Values, trail)
	}
	seen := spanned(s, table, statement.Where, trail)
	rows := meeting(table.Columns, seen, statement.Where)
	switch statement.Act {
	case syntax.Update:
		return update(table, rows, statement.Sets)
	case syntax.Delete:
		return remove(table, rows)
	}
	return outcome{reply: show(table.Columns, rows, statement)}
}

// spanned is the rows of a table that lie in a condition's span.
func spanned(s store.Store, table store.Table, where []syntax.Step, trail *tree.Trail) []store.Row {
	keys := spanOf(table.Columns, where)
	if !keys.hasKeys() {
		return nil
	}
	return s.Rows(table, keys.low, keys.high, trail)
}

// apply is the store as an outcome leaves it.
func apply(s store.Store, o outcome, trail *tree.Trail) store.Store {
	if o.makes {
		s = s.Make(o.table, trail)
	}
	for i := 0; i < len(o.puts); i++ {
		s = s.Put(o.table.Number, o.puts[i], trail)
	}
	for i := 0; i < len(o.cuts); i++ {
		s = s.Cut(o.table.Number, o.cuts[i], trail)
	}
	return s
}

func refused(e api.Errno) outcome {
	return outcome{reply: "!" + strconv.Itoa(int(e))}
}

func counted(rows int) string {
	return strconv.Itoa(rows) + ";"
}

// create is told how many rows and tables there are, all together.
func create(tables []store.Table, size int, statement syntax.Statement) outcome {
	_, there := store.Find(tables, statement.Table)
	if there {
		return refused(api.ErrTwice)
	}
	if len(statement.Columns) > api.MaxCols {
		return refused(api.ErrCount)
	}
	if twoOfOneName(statement.Columns) {
		return refused(api.ErrTwice)
	}
	if len(tables) >= api.MaxTables || size >= api.MaxRows {
		return refused(api.ErrFull)
	}
	table := store.Table{Number: store.Next(tables), Name: statement.Table, Columns: statement.Columns}
	return outcome{reply: counted(0), makes: true, table: table}
}

func twoOfOneName(columns []data.Column) bool {
	for i := 0; i < len(columns); i++ {
		if data.Find(columns, columns[i].Name) != i {
			return true
		}
	}
	return false
}

// insert touches the way to its place, also where it is refused there.
func insert(s store.Store, table store.Table, values []data.Value, trail *tree.Trail) outcome {
	row := store.Row{Cells: values}
	if s.Has(table.Number, row.Key(), trail) {
		return refused(api.ErrKey)
	}
	if s.Size() >= api.MaxRows {
		return refused(api.ErrFull)
	}
	return outcome{reply: counted(1), table: table, puts: []store.Row{row}}
}

// update is told the rows that meet the condition.
func update(table store.Table, rows []store.Row, sets []syntax.Set) outcome {
	var puts []store.Row
	for i := 0; i < len(rows); i++ {
		row, ok := assigned(table.Columns, rows[i], sets)
		if !ok {
			return refused(api.ErrRange)
		}
		puts = append(puts, row)
	}
	return outcome{reply: counted(len(puts)), table: table, puts: puts}
}

// assigned is the row as an update leaves it; false, if a number would be out of
// range. Every term is read in the old row.
func assigned(columns []data.Column, old store.Row, sets []syntax.Set) (store.Row, bool) {
	row := old.Copy()
	for i := 0; i < len(sets); i++ {
		value, ok := result(columns, old, sets[i])
		if !ok {
			return store.Row{}, false
		}
		at := data.Find(columns, sets[i].Column)
		if at >= 0 && at < len(row.Cells) {
			row.Cells[at] = value
		}
	}
	return row, true
}

// result is what an assignment sets a column to; false, if that is out of range.
func result(columns []data.Column, row store.Row, set syntax.Set) (data.Value, bool) {
	first := valueOf(columns, row, set.First)
	if set.Sign == "" {
		return first, true
	}
	second := valueOf(columns, row, set.Second)
	number := first.Number + second.Number
	if set.Sign == "-" {
		number = first.Number - second.Number
	}
	if number < api.Low || number > api.High {
		return data.Value{}, false
	}
	return data.OfNumber(number), true
}

// remove is told the rows that meet the condition.
func remove(table store.Table, rows []store.Row) outcome {
	var cuts []int64
	for i := 0; i < len(rows); i++ {
		cuts = append(cuts, rows[i].Key())
	}
	return outcome{reply: counted(len(cuts)), table: table, cuts: cuts}
}
