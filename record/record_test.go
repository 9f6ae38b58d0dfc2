package record

import (
	"encoding/hex"
	"math/rand"
	"reflect"
	"testing"

	"sqlproof/api"
	"sqlproof/data"
)

func TestPlaces(t *testing.T) {
	for _, c := range []struct {
		table int
		key   int64
		want  int64
	}{
		{0, 1, 0x0080000001}, {0, api.Low, 0}, {0, api.High, 0x00ffffffff}, {1, 2, 0x0180000002}, {1, -1, 0x017fffffff},
		{1, api.Low, 0x0100000000}, {5, 0, 0x0580000000}, {5, api.High, 0x05ffffffff},
	} {
		if got := Place(c.table, c.key); got != c.want || Key(got) != c.key {
			t.Errorf("P9: Place(%d, %d) = %x, want %x; its key %d", c.table, c.key, got, c.want, Key(got))
		}
	}
}

func columns(kinds ...data.Kind) []data.Column {
	names := []string{"id", "a", "b", "abcdefgh", "e"}
	var list []data.Column
	for i, k := range kinds {
		list = append(list, data.Column{Name: names[i], Kind: k})
	}
	return list
}

func TestTables(t *testing.T) {
	for _, c := range []struct {
		name    string
		columns []data.Column
		want    string
	}{
		{"t", columns(data.Int, data.Int, data.Text), "01740300026964000161010162"},
		{"u", []data.Column{{Name: "k"}}, "01750100016b"},
		{"abcdefgh", columns(data.Int, data.Text, data.Int, data.Text), "0861626364656667680400026964010161000162010861626364656667" + "68"},
	} {
		row := OfTable(c.name, c.columns)
		if got := hex.EncodeToString([]byte(row)); got != c.want {
			t.Errorf("P9: %s is described by %s, want %s", c.name, got, c.want)
		}
		if name, list, ok := ToTable(row); name != c.name || !reflect.DeepEqual(list, c.columns) || !ok {
			t.Errorf("P9: %s is read as %q, %v, %v", c.want, name, list, ok)
		}
	}
}

func TestNoTables(t *testing.T) {
	five := OfTable("t", columns(data.Int, data.Int, data.Int, data.Int, data.Int))
	for _, row := range []string{
		"", "\x01", "\x01t", "\x01t\x00", "\x01t\x01", "\x01t\x01\x00", "\x01t\x01\x00\x01", "\x01t\x01\x00\x00", "\x01t\x01\x01\x01k", "\x01t\x01\x02\x01k",
		"\x00\x01\x00\x01k", "\x09123456789\x01\x00\x01k", "\x01t\x01\x00\x09123456789", "\x01t\x02\x00\x01k", "\x01t\x02\x00\x01k\x02\x01a", "\x01t\x02\x00\x01k\xff\x01a",
		"\x01t\x01\x00\x01k\x00", "\x01t\x01\x00\x01k\x00\x01a", "\x01t\xff\x00\x01k", "\xfft", five,
	} {
		if name, list, ok := ToTable(row); name != "" || list != nil || ok {
			t.Errorf("P9: %q is read as %q, %v, %v", row, name, list, ok)
		}
	}
}

func TestCells(t *testing.T) {
	n, s := data.OfNumber, data.OfText
	for _, c := range []struct {
		columns []data.Column
		cells   []data.Value
		want    string
	}{
		{columns(data.Int), []data.Value{n(7)}, ""},
		{columns(data.Int, data.Int, data.Text), []data.Value{n(2), n(-5), s("x")}, "7ffffffb0178"},
		{columns(data.Int, data.Int, data.Text), []data.Value{n(-1), n(7), s("")}, "8000000700"},
		{columns(data.Int, data.Int, data.Int, data.Int), []data.Value{n(0), n(api.Low), n(api.High), n(0)}, "00000000ffffffff80000000"},
		{columns(data.Int, data.Text, data.Int, data.Text), []data.Value{n(api.High), s("abcdefghijkl"), n(1), s(" ~")}, "0c6162636465666768696a6b6c80000001" + "02207e"},
	} {
		row := OfCells(c.cells)
		if got := hex.EncodeToString([]byte(row)); got != c.want {
			t.Errorf("P9: %v is written %s, want %s", c.cells, got, c.want)
		}
		if cells, ok := ToCells(c.columns, c.cells[0].Number, row); !reflect.DeepEqual(cells, c.cells) || !ok {
			t.Errorf("P9: %s is read as %v, %v", c.want, cells, ok)
		}
	}
}

func TestNoCells(t *testing.T) {
	for _, c := range []struct {
		columns []data.Column
		row     string
	}{
		{columns(data.Int), "x"}, {columns(data.Int, data.Int), ""}, {columns(data.Int, data.Int), "123"}, {columns(data.Int, data.Int), "12345"},
		{columns(data.Int, data.Text), ""}, {columns(data.Int, data.Text), "\x01"}, {columns(data.Int, data.Text), "\x01ab"}, {columns(data.Int, data.Text), "\x0dthirteen byte"},
		{columns(data.Int, data.Text, data.Int), "\x0dthirteen byte1234"}, {columns(data.Int, data.Text, data.Int), "\x02a1234"}, {columns(data.Int, data.Int, data.Text), "1234"},
	} {
		if cells, ok := ToCells(c.columns, 1, c.row); cells != nil || ok {
			t.Errorf("P9: %q is read as %v, %v", c.row, cells, ok)
		}
	}
}

// P1: any bytes end; what is read from them is written as the same bytes.
func TestAnyBytes(t *testing.T) {
	r := rand.New(rand.NewSource(5))
	for i := 0; i < 100000; i++ {
		row := make([]byte, r.Intn(14))
		for k := range row {
			row[k] = byte(r.Intn(4))
		}
		if name, list, ok := ToTable(string(row)); ok && OfTable(name, list) != string(row) {
			t.Fatalf("P9: %q is read as %q, %v", row, name, list)
		}
		list := columns(data.Int, data.Kind(r.Intn(2)), data.Kind(r.Intn(2)), data.Kind(r.Intn(2)))[:1+r.Intn(4)]
		if cells, ok := ToCells(list, 1, string(row)); ok && OfCells(cells) != string(row) {
			t.Fatalf("P9: %q is read as %v", row, cells)
		}
	}
}
