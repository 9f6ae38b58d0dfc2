// Package engine answers statements over a store (P5 to P8, P10).
package engine

import (
	"strconv"

	"sqlproof/api"
	"sqlproof/data"
	"sqlproof/store"
	"sqlproof/syntax"
)

// Outcome is the reply to a statement and what the statement turns. That the two
// come ahead of any turn lets Peek and Run give one answer, and lets a refused
// update leave no row half done.
type Outcome struct {
	Reply   string
	Makes   bool // a table is made, of the name and the columns that follow
	Name    string
	Columns []data.Column
	Table   int         // the number of the table whose rows turn
	Puts    []store.Row // in the order in which they are put
	Cuts    []int64     // the keys of rows, in the order in which these are deleted
}

// Decide finds the outcome of a statement and turns nothing.
func Decide(s store.Store, sql string) Outcome {
	statement, e := syntax.Parse(sql)
	if e != api.OK {
		return refused(e)
	}
	tables := s.Tables()
	if statement.Act == syntax.Create {
		return create(tables, s.Size(), statement)
	}
	table, there := store.Find(tables, statement.Table)
	if !there {
		return refused(api.ErrName)
	}
	e = check(table.Columns, statement)
	if e != api.OK {
		return refused(e)
	}
	if statement.Act == syntax.Insert {
		return insert(s, table.Number, statement.Values)
	}
	rows := meeting(table.Columns, s.Rows(table), statement.Where)
	switch statement.Act {
	case syntax.Update:
		return update(table, rows, statement.Sets)
	case syntax.Delete:
		return remove(table.Number, rows)
	}
	return Outcome{Reply: show(table.Columns, rows, statement)}
}

// Apply is the store as an outcome leaves it.
func Apply(s store.Store, o Outcome) store.Store {
	if o.Makes {
		s = s.Make(o.Name, o.Columns)
	}
	for i := 0; i < len(o.Puts); i++ {
		s = s.Put(o.Table, o.Puts[i])
	}
	for i := 0; i < len(o.Cuts); i++ {
		s = s.Cut(o.Table, o.Cuts[i])
	}
	return s
}

func refused(e api.Errno) Outcome {
	return Outcome{Reply: "!" + strconv.Itoa(int(e))}
}

func counted(rows int) string {
	return strconv.Itoa(rows) + ";"
}

// create is told how many rows and tables there are, all together.
func create(tables []store.Table, size int, statement syntax.Statement) Outcome {
	_, there := store.Find(tables, statement.Table)
	if there {
		return refused(api.ErrTwice)
	}
	if len(statement.Columns) > api.MaxCols {
		return refused(api.ErrCount)
	}
	if twoOfOneName(statement.Columns) {
		return refused(api.ErrTwice)
	}
	if len(tables) >= api.MaxTables || size >= api.MaxRows {
		return refused(api.ErrFull)
	}
	return Outcome{Reply: counted(0), Makes: true, Name: statement.Table, Columns: statement.Columns}
}

func twoOfOneName(columns []data.Column) bool {
	for i := 0; i < len(columns); i++ {
		if data.Find(columns, columns[i].Name) != i {
			return true
		}
	}
	return false
}

func insert(s store.Store, table int, values []data.Value) Outcome {
	row := store.Row{Cells: values}
	if s.Has(table, row.Key()) {
		return refused(api.ErrKey)
	}
	if s.Size() >= api.MaxRows {
		return refused(api.ErrFull)
	}
	return Outcome{Reply: counted(1), Table: table, Puts: []store.Row{row}}
}

// update is told the rows that meet the condition.
func update(table store.Table, rows []store.Row, sets []syntax.Set) Outcome {
	var puts []store.Row
	for i := 0; i < len(rows); i++ {
		row, ok := assigned(table.Columns, rows[i], sets)
		if !ok {
			return refused(api.ErrRange)
		}
		puts = append(puts, row)
	}
	return Outcome{Reply: counted(len(puts)), Table: table.Number, Puts: puts}
}

// assigned is the row as an update leaves it; false, if a number would be out of
// range. Every term is read in the old row.
func assigned(columns []data.Column, old store.Row, sets []syntax.Set) (store.Row, bool) {
	row := old.Copy()
	for i := 0; i < len(sets); i++ {
		value, ok := result(columns, old, sets[i])
		if !ok {
			return store.Row{}, false
		}
		at := data.Find(columns, sets[i].Column)
		if at >= 0 && at < len(row.Cells) {
			row.Cells[at] = value
		}
	}
	return row, true
}

// result is what an assignment sets a column to; false, if that is out of range.
func result(columns []data.Column, row store.Row, set syntax.Set) (data.Value, bool) {
	first := valueOf(columns, row, set.First)
	if set.Sign == "" {
		return first, true
	}
	second := valueOf(columns, row, set.Second)
	number := first.Number + second.Number
	if set.Sign == "-" {
		number = first.Number - second.Number
	}
	if number < api.Low || number > api.High {
		return data.Value{}, false
	}
	return data.OfNumber(number), true
}

// remove is told the rows that meet the condition.
func remove(table int, rows []store.Row) Outcome {
	var cuts []int64
	for i := 0; i < len(rows); i++ {
		cuts = append(cuts, rows[i].Key())
	}
	return Outcome{Reply: counted(len(cuts)), Table: table, Cuts: cuts}
}
