// Package store keeps tables and their rows in one tree (P8 to P10).
package store

import (
	"sqlproof/api"
	"sqlproof/data"
	"sqlproof/record"
	"sqlproof/tree"
)

// Row is a value for each column; the first is its key.
type Row struct {
	Cells []data.Value
}

// Table is a table without its rows.
type Table struct {
	Number  int
	Name    string
	Columns []data.Column
}

// Store is all tables and their rows. No call turns it: what makes, puts or cuts
// answers another one. The empty Store has no tables.
type Store struct {
	root tree.Node
}

// tables is the number of the table whose rows describe the others.
const tables = 0

// Key is the number by which a row is found.
func (r Row) Key() int64 {
	if len(r.Cells) == 0 {
		return 0
	}
	return r.Cells[0].Number
}

// Copy is a row that shares no memory with r.
func (r Row) Copy() Row {
	cells := make([]data.Value, len(r.Cells))
	copy(cells, r.Cells)
	return Row{Cells: cells}
}

// Find is the first table of that name in a list; false, if there is none.
func Find(list []Table, name string) (Table, bool) {
	for i := 0; i < len(list); i++ {
		if list[i].Name == name {
			return list[i], true
		}
	}
	return Table{}, false
}

// entries are all rows of a table, as they lie in the tree.
func (s Store) entries(table int) []tree.Entry {
	return s.root.Between(record.Place(table, api.Low), record.Place(table, api.High))
}

// Tables is all tables, in the order of their numbers. Only tables that were
// made here are in the tree, so every description can be read.
func (s Store) Tables() []Table {
	entries := s.entries(tables)
	var list []Table
	for i := 0; i < len(entries); i++ {
		name, columns, ok := record.ToTable(entries[i].Row)
		if ok {
			key := record.Key(entries[i].Place)
			list = append(list, Table{Number: int(key), Name: name, Columns: columns})
		}
	}
	return list
}

// Rows is all rows of a table, in the order of their keys.
func (s Store) Rows(table Table) []Row {
	entries := s.entries(table.Number)
	var rows []Row
	for i := 0; i < len(entries); i++ {
		cells, ok := record.ToCells(table.Columns, record.Key(entries[i].Place), entries[i].Row)
		if ok {
			rows = append(rows, Row{Cells: cells})
		}
	}
	return rows
}

// Has tells whether a table, by its number, has a row of that key.
func (s Store) Has(table int, key int64) bool {
	return s.root.Has(record.Place(table, key))
}

// Size is how many rows and tables there are, all together.
func (s Store) Size() int {
	return s.root.Rows
}

// Root is the digest of the tree's root, of so many bytes.
func (s Store) Root(wide int) string {
	return s.root.Digest(wide)
}

// Make is the store with a new table, without rows.
func (s Store) Make(name string, columns []data.Column) Store {
	list := s.Tables()
	last := 0
	for i := 0; i < len(list); i++ {
		if list[i].Number > last {
			last = list[i].Number
		}
	}
	place := record.Place(tables, int64(last)+1)
	return Store{root: s.root.Put(place, record.OfTable(name, columns))}
}

// Put is the store with a row laid into a table, instead of one of the same key.
func (s Store) Put(table int, row Row) Store {
	place := record.Place(table, row.Key())
	return Store{root: s.root.Put(place, record.OfCells(row.Cells))}
}

// Cut is the store without the row of a key of a table.
func (s Store) Cut(table int, key int64) Store {
	return Store{root: s.root.Delete(record.Place(table, key))}
}
