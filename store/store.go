// Package store keeps tables and their rows.
package store

import "sqlproof/data"

// Row is a value for each column; the first is its key.
type Row struct {
	Cells []data.Value
}

// Table is a table; its rows lie in the order of their keys.
type Table struct {
	Name    string
	Columns []data.Column
	Rows    []Row
}

// Store is all tables, as they were made.
type Store struct {
	Tables []Table
}

// Key is the number by which a row is found.
func (r Row) Key() int64 {
	if len(r.Cells) == 0 {
		return 0
	}
	return r.Cells[0].Number
}

// Copy is a row that shares no memory with r.
func (r Row) Copy() Row {
	cells := make([]data.Value, len(r.Cells))
	copy(cells, r.Cells)
	return Row{Cells: cells}
}

// Has tells whether there is a row of that key.
func (t Table) Has(key int64) bool {
	for i := 0; i < len(t.Rows); i++ {
		if t.Rows[i].Key() == key {
			return true
		}
	}
	return false
}

// Find tells the place of the first table of that name in the list, or -1.
func (s *Store) Find(name string) int {
	for i := 0; i < len(s.Tables); i++ {
		if s.Tables[i].Name == name {
			return i
		}
	}
	return -1
}

// Size is how many rows and tables there are, all together.
func (s *Store) Size() int {
	size := len(s.Tables)
	for i := 0; i < len(s.Tables); i++ {
		size += len(s.Tables[i].Rows)
	}
	return size
}

// Make lays down a new table without rows.
func (s *Store) Make(name string, columns []data.Column) {
	own := make([]data.Column, len(columns))
	copy(own, columns)
	s.Tables = append(s.Tables, Table{Name: name, Columns: own})
}

// Put lays a row into its place in the order, instead of one of the same key.
func (s *Store) Put(table int, row Row) {
	if table < 0 || table >= len(s.Tables) {
		return
	}
	key := row.Key()
	old := s.Tables[table].Rows
	var rows []Row
	at := 0
	for at < len(old) && old[at].Key() < key {
		rows = append(rows, old[at])
		at++
	}
	rows = append(rows, row.Copy())
	for ; at < len(old); at++ {
		if old[at].Key() != key {
			rows = append(rows, old[at])
		}
	}
	s.Tables[table].Rows = rows
}

// Cut takes the row of a key away.
func (s *Store) Cut(table int, key int64) {
	if table < 0 || table >= len(s.Tables) {
		return
	}
	old := s.Tables[table].Rows
	var rows []Row
	for i := 0; i < len(old); i++ {
		if old[i].Key() != key {
			rows = append(rows, old[i])
		}
	}
	s.Tables[table].Rows = rows
}
