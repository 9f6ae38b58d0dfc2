package store

import (
	"fmt"
	"math/rand"
	"testing"

	"sqlproof/api"
	"sqlproof/data"
	"sqlproof/record"
	"sqlproof/tree"
)

func row(key int64, text string) Row {
	return Row{Cells: []data.Value{data.OfNumber(key), data.OfText(text)}}
}

// nobody is a trail that no one asks.
func nobody() *tree.Trail { return new(tree.Trail) }

func all(s Store, t Table) []Row { return s.Rows(t, api.Low, api.High, nobody()) }

func put(s Store, table int, rows ...Row) Store {
	for _, r := range rows {
		s = s.Put(table, r, nobody())
	}
	return s
}

func cut(s Store, table int, keys ...int64) Store {
	for _, k := range keys {
		s = s.Cut(table, k, nobody())
	}
	return s
}

func told(s Store) string {
	out := ""
	for _, t := range s.Tables(nobody()) {
		out += fmt.Sprint(t.Number, t.Name)
		for _, r := range all(s, t) {
			out += fmt.Sprint(" ", r.Key(), r.Cells[1].Text)
		}
		out += ";"
	}
	return out
}

func made() Store {
	columns := []data.Column{{Name: "id", Kind: data.Int}, {Name: "a", Kind: data.Text}}
	s := Store{}.Make(Table{1, "t", columns}, nobody()).Make(Table{2, "u", columns}, nobody())
	columns[0].Name = "other"
	return s
}

func TestRows(t *testing.T) {
	s := made()
	for _, k := range []int64{5, -3, 9, 0, 5, -3} {
		s = put(s, 1, row(k, fmt.Sprint("r", k)))
	}
	s = put(put(s, 1, row(0, "new")), 2, row(1, "x"))
	if got, want := told(s), "1t -3r-3 0new 5r5 9r9;2u 1x;"; got != want {
		t.Errorf("P8: %s, want %s", got, want)
	}
	if s.Size() != 7 {
		t.Errorf("Size() = %d, want 7", s.Size())
	}
	s = cut(cut(s, 1, 0, 7, 9), 2, 5)
	if got, want := told(s), "1t -3r-3 5r5;2u 1x;"; got != want {
		t.Errorf("P8: %s, want %s", got, want)
	}
	has := func(table int, key int64) bool { return s.Has(table, key, nobody()) }
	if !has(1, 5) || has(1, 9) || has(1, 1) || !has(2, 1) || has(2, 5) || has(3, 5) {
		t.Error("Has does not tell which keys there are")
	}
}

// P9: the least and the greatest key of a table are no rows of its neighbours.
func TestEdgesOfTables(t *testing.T) {
	s := put(put(made(), 1, row(api.High, "h"), row(api.Low, "l")), 2, row(api.Low, "l"), row(api.High, "h"))
	if got, want := told(s), "1t -2147483648l 2147483647h;2u -2147483648l 2147483647h;"; got != want {
		t.Errorf("P9: %s, want %s", got, want)
	}
}

// P9: tables are numbered from 1 on, as they were made; P15: the number for a new
// one is one above the greatest.
func TestNumbers(t *testing.T) {
	for want, list := range map[int][]Table{1: nil, 2: {{Number: 1}}, 4: {{Number: 3}, {Number: 1}}, 6: {{Number: 2}, {Number: 5}}} {
		if got := Next(list); got != want {
			t.Errorf("P15: Next(%v) = %d, want %d", list, got, want)
		}
	}
	s := Store{}
	for i, name := range []string{"e", "d", "c", "b", "a"} {
		s = s.Make(Table{Next(s.Tables(nobody())), name, []data.Column{{Name: "id"}}}, nobody())
		list := s.Tables(nobody())
		if table, ok := Find(list, name); !ok || table.Number != i+1 || len(list) != i+1 {
			t.Errorf("P9: table %s is %+v of %d", name, table, len(list))
		}
	}
}

func TestFind(t *testing.T) {
	list := made().Tables(nobody())
	list = append(list, Table{Number: 3, Name: "t"})
	for name, want := range map[string]int{"t": 1, "u": 2, "v": 0, "": 0} {
		if got, ok := Find(list, name); got.Number != want || ok != (want > 0) {
			t.Errorf("Find(%q) = %v, %v, want %d", name, got, ok, want)
		}
	}
}

// P12: rows are those from a key to a key.
func TestSomeRows(t *testing.T) {
	s := put(made(), 1, row(api.Low, ""), row(-3, ""), row(0, ""), row(5, ""), row(api.High, ""))
	s = put(s, 2, row(1, ""), row(4, ""))
	for _, c := range []struct {
		low, high int64
		want      string
	}{{-3, 5, " -3 0 5"}, {-2, 4, " 0"}, {1, 4, ""}, {api.Low, -4, " -2147483648"}, {6, api.High, " 2147483647"}, {api.Low + 1, api.High - 1, " -3 0 5"}, {0, 0, " 0"}, {5, -3, ""}} {
		got := ""
		for _, r := range s.Rows(Table{Number: 1, Columns: made().Tables(nobody())[0].Columns}, c.low, c.high, nobody()) {
			got += fmt.Sprint(" ", r.Key())
		}
		if got != c.want {
			t.Errorf("P12: keys from %d to %d:%s, want%s", c.low, c.high, got, c.want)
		}
	}
}

// P15: a trail is lost at a row of table 0, or of those that are asked for, that
// is not written as P9 has it, and at no other.
func TestBadRows(t *testing.T) {
	const good = "\x01t\x02\x00\x02id\x01\x01a"
	at := func(table int, key int64) int64 { return record.Place(table, key) }
	for _, c := range []struct {
		entry        tree.Entry
		tables, rows bool // which of the two calls is lost
	}{
		{tree.Entry{Place: at(0, 1), Row: good}, false, false},
		{tree.Entry{Place: at(0, 5), Row: good}, false, false},
		{tree.Entry{Place: at(0, 0), Row: good}, true, false},
		{tree.Entry{Place: at(0, 6), Row: good}, true, false},
		{tree.Entry{Place: at(0, -1), Row: good}, true, false},
		{tree.Entry{Place: at(0, api.Low), Row: good}, true, false},
		{tree.Entry{Place: at(0, api.High), Row: good}, true, false},
		{tree.Entry{Place: at(0, 3), Row: good + "\x00"}, true, false},
		{tree.Entry{Place: at(0, 3), Row: ""}, true, false},
		{tree.Entry{Place: at(1, 3), Row: "\x01x"}, false, false},
		{tree.Entry{Place: at(1, 3), Row: ""}, false, true},
		{tree.Entry{Place: at(1, 9), Row: "\x01"}, false, true},
		{tree.Entry{Place: at(1, 3), Row: "\x0dthirteen byte"}, false, true},
		{tree.Entry{Place: at(1, 2), Row: ""}, false, false},
		{tree.Entry{Place: at(1, 10), Row: ""}, false, false},
		{tree.Entry{Place: at(2, 3), Row: ""}, false, false},
	} {
		s := Store{Tree: tree.Leaf([]tree.Entry{c.entry})}
		var one, other tree.Trail
		list := s.Tables(&one)
		rows := s.Rows(Table{Number: 1, Columns: made().Tables(nobody())[0].Columns}, 3, 9, &other)
		if one.Lost != c.tables || other.Lost != c.rows || c.tables && list != nil || c.rows && rows != nil {
			t.Errorf("P15: %+v: lost %v, %v, want %v, %v", c.entry, one.Lost, other.Lost, c.tables, c.rows)
		}
	}
}

// What is handed in may be turned later without the store turning.
func TestOwnMemory(t *testing.T) {
	s := made()
	if got := s.Tables(nobody())[0].Columns[0].Name; got != "id" {
		t.Errorf("Make kept the list of columns: %q", got)
	}
	r := row(1, "mine")
	s = put(s, 1, r)
	r.Cells[1] = data.OfText("yours")
	all(s, s.Tables(nobody())[0])[0].Cells[1] = data.OfText("yours")
	if got, want := told(s), "1t 1mine;2u;"; got != want {
		t.Errorf("Put kept the row: %s, want %s", got, want)
	}
	other := r.Copy()
	other.Cells[1] = data.OfText("other")
	if r.Cells[1].Text != "yours" {
		t.Error("Copy shares memory")
	}
}

// P3: a store that was held stays as it is, whatever is made of it.
func TestOldStoreStays(t *testing.T) {
	r := rand.New(rand.NewSource(3))
	s := made()
	for i := 0; i < 500; i++ {
		before, root := told(s), s.Tree.Digest(8)
		next := put(s, 1+r.Intn(2), row(r.Int63n(30), fmt.Sprint(i)))
		for k := int64(0); k < 30 && i%3 == 0; k += 2 {
			next = cut(next, 1+r.Intn(2), k)
		}
		if told(s) != before || s.Tree.Digest(8) != root {
			t.Fatalf("P3: %q has become %q", before, told(s))
		}
		s = next
	}
}

// P1: numbers that are no table's end all the same.
func TestNoTable(t *testing.T) {
	s := made()
	for _, n := range []int{-1, 7, 1 << 40, -1 << 63} {
		cut(put(s, n, row(1, "x")), n, 1).Has(n, 1, nobody())
		all(s, Table{Number: n})
	}
	if k := (Row{}).Key(); k != 0 {
		t.Errorf("the key of no row is %d", k)
	}
}
