// Package store keeps tables and their rows in one tree (P8 to P10).
package store

import (
	"sqlproof/api"
	"sqlproof/data"
	"sqlproof/record"
	"sqlproof/tree"
)

// Row is a value for each column; the first is its key.
type Row struct {
	Cells []data.Value
}

// Table is a table without its rows.
type Table struct {
	Number  int
	Name    string
	Columns []data.Column
}

// Store is a tree, seen as tables and their rows. No call turns it: what makes,
// puts or cuts answers another one. The empty Store has no tables. Every call is
// told a trail, on which it notes what it touches of the tree, and that it found
// a row that cannot be read; in a tree that was made here there is no such row.
type Store struct {
	Tree tree.Node
}

// tables is the number of the table whose rows describe the others.
const tables = 0

// Key is the number by which a row is found.
func (r Row) Key() int64 {
	if len(r.Cells) == 0 {
		return 0
	}
	return r.Cells[0].Number
}

// Copy is a row that shares no memory with r.
func (r Row) Copy() Row {
	cells := make([]data.Value, len(r.Cells))
	copy(cells, r.Cells)
	return Row{Cells: cells}
}

// Find is the first table of that name in a list; false, if there is none.
func Find(list []Table, name string) (Table, bool) {
	for i := 0; i < len(list); i++ {
		if list[i].Name == name {
			return list[i], true
		}
	}
	return Table{}, false
}

// Next is the number for a new table beside those of a list.
func Next(list []Table) int {
	last := 0
	for i := 0; i < len(list); i++ {
		if list[i].Number > last {
			last = list[i].Number
		}
	}
	return last + 1
}

// Tables is all tables, in the order of their numbers.
func (s Store) Tables(trail *tree.Trail) []Table {
	entries := s.Tree.Through(record.Place(tables, api.Low), record.Place(tables, api.High), trail)
	var list []Table
	for i := 0; i < len(entries); i++ {
		key := record.Key(entries[i].Place)
		name, columns, ok := record.ToTable(entries[i].Row)
		if !ok || key < 1 || key > api.MaxTables {
			trail.Lost = true
			continue
		}
		list = append(list, Table{Number: int(key), Name: name, Columns: columns})
	}
	return list
}

// Rows is the rows of a table from the key low to the key high, in the order of
// their keys.
func (s Store) Rows(table Table, low int64, high int64, trail *tree.Trail) []Row {
	entries := s.Tree.Through(record.Place(table.Number, low), record.Place(table.Number, high), trail)
	var rows []Row
	for i := 0; i < len(entries); i++ {
		cells, ok := record.ToCells(table.Columns, record.Key(entries[i].Place), entries[i].Row)
		if !ok {
			trail.Lost = true
			continue
		}
		rows = append(rows, Row{Cells: cells})
	}
	return rows
}

// Has tells whether a table, by its number, has a row of that key.
func (s Store) Has(table int, key int64, trail *tree.Trail) bool {
	return s.Tree.Has(record.Place(table, key), trail)
}

// Size is how many rows and tables there are, all together.
func (s Store) Size() int {
	return s.Tree.Rows
}

// Make is the store with a new table, of that number and without rows.
func (s Store) Make(table Table, trail *tree.Trail) Store {
	place := record.Place(tables, int64(table.Number))
	return Store{Tree: s.Tree.Put(place, record.OfTable(table.Name, table.Columns), trail)}
}

// Put is the store with a row laid into a table, instead of one of the same key.
func (s Store) Put(table int, row Row, trail *tree.Trail) Store {
	place := record.Place(table, row.Key())
	return Store{Tree: s.Tree.Put(place, record.OfCells(row.Cells), trail)}
}

// Cut is the store without the row of a key of a table.
func (s Store) Cut(table int, key int64, trail *tree.Trail) Store {
	return Store{Tree: s.Tree.Delete(record.Place(table, key), trail)}
}
