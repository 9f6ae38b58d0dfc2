// Package engine answers statements over a store (P5 to P8).
package engine

import (
	"strconv"

	"sqlproof/api"
	"sqlproof/data"
	"sqlproof/store"
	"sqlproof/syntax"
)

// Outcome is the reply to a statement and what the statement turns. That the two
// come ahead of any turn lets Peek and Run give one answer, and lets a refused
// update leave no row half done.
type Outcome struct {
	Reply   string
	Makes   bool // a table is made, of the name and the columns that follow
	Name    string
	Columns []data.Column
	Table   int // the place in the store's list of the table whose rows turn
	Puts    []store.Row
	Cuts    []int64
}

// Decide finds the outcome of a statement and turns nothing.
func Decide(s *store.Store, sql string) Outcome {
	statement, e := syntax.Parse(sql)
	if e != api.OK {
		return refused(e)
	}
	if statement.Act == syntax.Create {
		return create(s, statement)
	}
	at := s.Find(statement.Table)
	if at < 0 || at >= len(s.Tables) {
		return refused(api.ErrName)
	}
	table := s.Tables[at]
	e = check(table.Columns, statement)
	if e != api.OK {
		return refused(e)
	}
	switch statement.Act {
	case syntax.Insert:
		return insert(table, at, s.Size(), statement.Values)
	case syntax.Update:
		return update(table, at, statement)
	case syntax.Delete:
		return remove(table, at, statement.Where)
	}
	return Outcome{Reply: show(table, statement)}
}

// Apply turns the store as an outcome says.
func Apply(s *store.Store, o Outcome) {
	if o.Makes {
		s.Make(o.Name, o.Columns)
	}
	for i := 0; i < len(o.Puts); i++ {
		s.Put(o.Table, o.Puts[i])
	}
	for i := 0; i < len(o.Cuts); i++ {
		s.Cut(o.Table, o.Cuts[i])
	}
}

func refused(e api.Errno) Outcome {
	return Outcome{Reply: "!" + strconv.Itoa(int(e))}
}

func counted(rows int) string {
	return strconv.Itoa(rows) + ";"
}

func create(s *store.Store, statement syntax.Statement) Outcome {
	if s.Find(statement.Table) >= 0 {
		return refused(api.ErrTwice)
	}
	if len(statement.Columns) > api.MaxCols {
		return refused(api.ErrCount)
	}
	if twoOfOneName(statement.Columns) {
		return refused(api.ErrTwice)
	}
	if len(s.Tables) >= api.MaxTables || s.Size() >= api.MaxRows {
		return refused(api.ErrFull)
	}
	return Outcome{Reply: counted(0), Makes: true, Name: statement.Table, Columns: statement.Columns}
}

func twoOfOneName(columns []data.Column) bool {
	for i := 0; i < len(columns); i++ {
		if data.Find(columns, columns[i].Name) != i {
			return true
		}
	}
	return false
}

// insert is told the size of the whole store, which bounds every table.
func insert(table store.Table, at int, size int, values []data.Value) Outcome {
	row := store.Row{Cells: values}
	if table.Has(row.Key()) {
		return refused(api.ErrKey)
	}
	if size >= api.MaxRows {
		return refused(api.ErrFull)
	}
	return Outcome{Reply: counted(1), Table: at, Puts: []store.Row{row}}
}

func update(table store.Table, at int, statement syntax.Statement) Outcome {
	rows := meeting(table, statement.Where)
	var puts []store.Row
	for i := 0; i < len(rows); i++ {
		row, ok := assigned(table.Columns, rows[i], statement.Sets)
		if !ok {
			return refused(api.ErrRange)
		}
		puts = append(puts, row)
	}
	return Outcome{Reply: counted(len(puts)), Table: at, Puts: puts}
}

// assigned is the row as an update leaves it; false, if a number would be out of
// range. Every term is read in the old row.
func assigned(columns []data.Column, old store.Row, sets []syntax.Set) (store.Row, bool) {
	row := old.Copy()
	for i := 0; i < len(sets); i++ {
		value, ok := result(columns, old, sets[i])
		if !ok {
			return store.Row{}, false
		}
		at := data.Find(columns, sets[i].Column)
		if at >= 0 && at < len(row.Cells) {
			row.Cells[at] = value
		}
	}
	return row, true
}

// result is what an assignment sets a column to; false, if that is out of range.
func result(columns []data.Column, row store.Row, set syntax.Set) (data.Value, bool) {
	first := valueOf(columns, row, set.First)
	if set.Sign == "" {
		return first, true
	}
	second := valueOf(columns, row, set.Second)
	number := first.Number + second.Number
	if set.Sign == "-" {
		number = first.Number - second.Number
	}
	if number < api.Low || number > api.High {
		return data.Value{}, false
	}
	return data.OfNumber(number), true
}

func remove(table store.Table, at int, where []syntax.Step) Outcome {
	rows := meeting(table, where)
	var cuts []int64
	for i := 0; i < len(rows); i++ {
		cuts = append(cuts, rows[i].Key())
	}
	return Outcome{Reply: counted(len(cuts)), Table: at, Cuts: cuts}
}
