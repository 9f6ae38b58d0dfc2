package store

import (
	"fmt"
	"math/rand"
	"testing"

	"sqlproof/api"
	"sqlproof/data"
)

func row(key int64, text string) Row {
	return Row{Cells: []data.Value{data.OfNumber(key), data.OfText(text)}}
}

func told(s Store) string {
	out := ""
	for _, t := range s.Tables() {
		out += fmt.Sprint(t.Number, t.Name)
		for _, r := range s.Rows(t) {
			out += fmt.Sprint(" ", r.Key(), r.Cells[1].Text)
		}
		out += ";"
	}
	return out
}

func made() Store {
	columns := []data.Column{{Name: "id", Kind: data.Int}, {Name: "a", Kind: data.Text}}
	s := Store{}.Make("t", columns).Make("u", columns)
	columns[0].Name = "other"
	return s
}

func TestRows(t *testing.T) {
	s := made()
	for _, k := range []int64{5, -3, 9, 0, 5, -3} {
		s = s.Put(1, row(k, fmt.Sprint("r", k)))
	}
	s = s.Put(1, row(0, "new")).Put(2, row(1, "x"))
	if got, want := told(s), "1t -3r-3 0new 5r5 9r9;2u 1x;"; got != want {
		t.Errorf("P8: %s, want %s", got, want)
	}
	if s.Size() != 7 {
		t.Errorf("Size() = %d, want 7", s.Size())
	}
	s = s.Cut(1, 0).Cut(1, 7).Cut(1, 9).Cut(2, 5)
	if got, want := told(s), "1t -3r-3 5r5;2u 1x;"; got != want {
		t.Errorf("P8: %s, want %s", got, want)
	}
	if !s.Has(1, 5) || s.Has(1, 9) || s.Has(1, 1) || !s.Has(2, 1) || s.Has(2, 5) || s.Has(3, 5) {
		t.Error("Has does not tell which keys there are")
	}
}

// P9: the least and the greatest key of a table are no rows of its neighbours.
func TestEdgesOfTables(t *testing.T) {
	s := made().Put(1, row(api.High, "h")).Put(2, row(api.Low, "l")).Put(1, row(api.Low, "l")).Put(2, row(api.High, "h"))
	if got, want := told(s), "1t -2147483648l 2147483647h;2u -2147483648l 2147483647h;"; got != want {
		t.Errorf("P9: %s, want %s", got, want)
	}
}

// P9: tables are numbered from 1 on, as they were made.
func TestNumbers(t *testing.T) {
	s := Store{}
	for i, name := range []string{"e", "d", "c", "b", "a"} {
		s = s.Make(name, []data.Column{{Name: "id"}})
		if table, ok := Find(s.Tables(), name); !ok || table.Number != i+1 || len(s.Tables()) != i+1 {
			t.Errorf("P9: table %s is %+v of %d", name, table, len(s.Tables()))
		}
	}
}

func TestFind(t *testing.T) {
	list := made().Tables()
	list = append(list, Table{Number: 3, Name: "t"})
	for name, want := range map[string]int{"t": 1, "u": 2, "v": 0, "": 0} {
		if got, ok := Find(list, name); got.Number != want || ok != (want > 0) {
			t.Errorf("Find(%q) = %v, %v, want %d", name, got, ok, want)
		}
	}
}

// What is handed in may be turned later without the store turning.
func TestOwnMemory(t *testing.T) {
	s := made()
	if got := s.Tables()[0].Columns[0].Name; got != "id" {
		t.Errorf("Make kept the list of columns: %q", got)
	}
	r := row(1, "mine")
	s = s.Put(1, r)
	r.Cells[1] = data.OfText("yours")
	s.Rows(s.Tables()[0])[0].Cells[1] = data.OfText("yours")
	if got, want := told(s), "1t 1mine;2u;"; got != want {
		t.Errorf("Put kept the row: %s, want %s", got, want)
	}
	other := r.Copy()
	other.Cells[1] = data.OfText("other")
	if r.Cells[1].Text != "yours" {
		t.Error("Copy shares memory")
	}
}

// P3: a store that was held stays as it is, whatever is made of it.
func TestOldStoreStays(t *testing.T) {
	r := rand.New(rand.NewSource(3))
	s := made()
	for i := 0; i < 500; i++ {
		before, root := told(s), s.Root(8)
		next := s.Put(1+r.Intn(2), row(r.Int63n(30), fmt.Sprint(i)))
		for k := int64(0); k < 30 && i%3 == 0; k += 2 {
			next = next.Cut(1+r.Intn(2), k)
		}
		if told(s) != before || s.Root(8) != root {
			t.Fatalf("P3: %q has become %q", before, told(s))
		}
		s = next
	}
}

// P1: numbers that are no table's end all the same.
func TestNoTable(t *testing.T) {
	s := made()
	for _, n := range []int{-1, 7, 1 << 40, -1 << 63} {
		s.Put(n, row(1, "x")).Cut(n, 1).Has(n, 1)
		s.Rows(Table{Number: n})
	}
	if k := (Row{}).Key(); k != 0 {
		t.Errorf("the key of no row is %d", k)
	}
}
