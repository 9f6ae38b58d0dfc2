// Package record has the places of rows, and rows as bytes (P9).
package record

import (
	"sqlproof/api"
	"sqlproof/data"
	"sqlproof/pack"
)

const (
	keys       = 1 << 32 // places of one table
	numberWide = 4       // bytes of a number
)

// Place is where the row of a key lies, in the table of a number.
func Place(table int, key int64) int64 {
	return int64(table)*keys + key - api.Low
}

// Key is the key of the row at a place.
func Key(place int64) int64 {
	return place%keys + api.Low
}

// OfTable is the bytes that describe a table.
func OfTable(name string, columns []data.Column) string {
	out := pack.Text(name) + pack.Number(int64(len(columns)), 1)
	for i := 0; i < len(columns); i++ {
		out += pack.Number(int64(columns[i].Kind), 1) + pack.Text(columns[i].Name)
	}
	return out
}

// ToTable reads what OfTable has written; false, if the bytes describe no table.
func ToTable(row string) (string, []data.Column, bool) {
	r := pack.Read(row)
	name := r.Text()
	count := r.Number(1)
	good := isName(name) && count >= 1 && count <= api.MaxCols
	var columns []data.Column
	for i := int64(0); good && i < count; i++ {
		kind := r.Number(1)
		column := r.Text()
		good = isName(column) && (kind == int64(data.Int) || kind == int64(data.Text) && i > 0)
		columns = append(columns, data.Column{Name: column, Kind: data.Kind(kind)})
	}
	if !good || !r.Done() {
		return "", nil, false
	}
	return name, columns, true
}

func isName(name string) bool {
	return len(name) >= 1 && len(name) <= api.MaxName
}

// OfCells is the bytes of a row; its key is in its place and not among them.
func OfCells(cells []data.Value) string {
	out := ""
	for i := 1; i < len(cells); i++ {
		if cells[i].Kind == data.Text {
			out += pack.Text(cells[i].Text)
		} else {
			out += pack.Number(cells[i].Number-api.Low, numberWide)
		}
	}
	return out
}

// ToCells reads a row of a table of such columns; false, if the bytes are none.
func ToCells(columns []data.Column, key int64, row string) ([]data.Value, bool) {
	r := pack.Read(row)
	good := true
	cells := []data.Value{data.OfNumber(key)}
	for i := 1; i < len(columns); i++ {
		if columns[i].Kind == data.Text {
			text := r.Text()
			good = good && len(text) <= api.MaxText
			cells = append(cells, data.OfText(text))
		} else {
			number := r.Number(numberWide)
			cells = append(cells, data.OfNumber(number+api.Low))
		}
	}
	if !good || !r.Done() {
		return nil, false
	}
	return cells, true
}
