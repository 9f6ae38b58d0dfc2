package store

import (
	"fmt"
	"testing"

	"sqlproof/data"
)

func row(key int64, text string) Row {
	return Row{Cells: []data.Value{data.OfNumber(key), data.OfText(text)}}
}

func told(s Store) string {
	out := ""
	for _, t := range s.Tables {
		out += t.Name
		for _, r := range t.Rows {
			out += fmt.Sprint(" ", r.Key(), r.Cells[1].Text)
		}
		out += ";"
	}
	return out
}

func made() *Store {
	var s Store
	columns := []data.Column{{Name: "id", Kind: data.Int}, {Name: "a", Kind: data.Text}}
	s.Make("t", columns)
	s.Make("u", columns)
	columns[0].Name = "other"
	return &s
}

func TestRows(t *testing.T) {
	s := made()
	for _, k := range []int64{5, -3, 9, 0, 5, -3} {
		s.Put(0, row(k, fmt.Sprint("r", k)))
	}
	s.Put(0, row(0, "new"))
	s.Put(1, row(1, "x"))
	if got, want := told(*s), "t -3r-3 0new 5r5 9r9;u 1x;"; got != want {
		t.Errorf("P8: %s, want %s", got, want)
	}
	if s.Size() != 7 {
		t.Errorf("Size() = %d, want 7", s.Size())
	}
	s.Cut(0, 0)
	s.Cut(0, 7)
	s.Cut(0, 9)
	if got, want := told(*s), "t -3r-3 5r5;u 1x;"; got != want {
		t.Errorf("P8: %s, want %s", got, want)
	}
	if !s.Tables[0].Has(5) || s.Tables[0].Has(9) || s.Tables[0].Has(1) {
		t.Error("Has does not tell which keys there are")
	}
}

func TestFind(t *testing.T) {
	s := made()
	for name, want := range map[string]int{"t": 0, "u": 1, "v": -1, "": -1} {
		if got := s.Find(name); got != want {
			t.Errorf("Find(%q) = %d, want %d", name, got, want)
		}
	}
}

// What is handed in may be turned later without the store turning.
func TestOwnMemory(t *testing.T) {
	s := made()
	if got := s.Tables[0].Columns[0].Name; got != "id" {
		t.Errorf("Make kept the list of columns: %q", got)
	}
	r := row(1, "mine")
	s.Put(0, r)
	r.Cells[1] = data.OfText("yours")
	if got, want := told(*s), "t 1mine;u;"; got != want {
		t.Errorf("Put kept the row: %s, want %s", got, want)
	}
}

// P1: places that are none turn nothing.
func TestNoTable(t *testing.T) {
	s := made()
	for _, at := range []int{-1, 2, 1 << 40} {
		s.Put(at, row(1, "x"))
		s.Cut(at, 1)
	}
	if got, want := told(*s), "t;u;"; got != want {
		t.Errorf("%s, want %s", got, want)
	}
	if k := (Row{}).Key(); k != 0 {
		t.Errorf("the key of no row is %d", k)
	}
}
