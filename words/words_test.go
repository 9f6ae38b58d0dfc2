package words

import (
	"reflect"
	"strings"
	"testing"
)

func m(s string) Word { return Word{Mark, s} }
func n(s string) Word { return Word{Name, s} }
func d(s string) Word { return Word{Number, s} }
func q(s string) Word { return Word{Text, s} }

func TestSplit(t *testing.T) {
	for _, c := range []struct {
		sql  string
		want []Word
	}{
		{"", nil},
		{" \n \n", nil},
		{"select", []Word{m("select")}},
		{"selects", []Word{n("selects")}},
		{"select1", []Word{n("select1")}},
		{"1select", []Word{d("1"), m("select")}},
		{"1a", []Word{d("1"), n("a")}},
		{"a1", []Word{n("a1")}},
		{"1a2b3", []Word{d("1"), n("a2b3")}},
		{"z9 0", []Word{n("z9"), d("0")}},
		{"abcdefgh", []Word{n("abcdefgh")}},
		{"a2345678", []Word{n("a2345678")}},
		{"123456789", []Word{d("123456789")}},
		{"000000000", []Word{d("000000000")}},
		{"''", []Word{q("")}},
		{"'a''b'", []Word{q("a"), q("b")}},
		{"' !~'", []Word{q(" !~")}},
		{"'select'", []Word{q("select")}},
		{"'123456789012'", []Word{q("123456789012")}},
		{"'a'b", []Word{q("a"), n("b")}},
		{"<><=>=<>", []Word{m("<>"), m("<="), m(">="), m("<>")}},
		{"< > < = > =", []Word{m("<"), m(">"), m("<"), m("="), m(">"), m("=")}},
		{"<<>", []Word{m("<"), m("<>")}},
		{">>=", []Word{m(">"), m(">=")}},
		{"=<=>", []Word{m("="), m("<="), m(">")}},
		{"><", []Word{m(">"), m("<")}},
		{"(),*=+-<>", []Word{m("("), m(")"), m(","), m("*"), m("="), m("+"), m("-"), m("<>")}},
		{"-1+a", []Word{m("-"), d("1"), m("+"), n("a")}},
		{"\na\n b ", []Word{n("a"), n("b")}},
	} {
		got, ok := Split(c.sql)
		if !ok || !reflect.DeepEqual(got, c.want) {
			t.Errorf("P4: Split(%q) = %v, %v, want %v", c.sql, got, ok, c.want)
		}
	}
}

func TestSplitRefuses(t *testing.T) {
	for _, sql := range []string{
		"abcdefghi", "a23456789", "selectselect", "1234567890", "0000000000",
		"'1234567890123'", "'", "'a", "a'", "'a'b'", "'a\nb'", "'\x1f'", "'\x7f'", "'\x80'", "'\x00'",
		"\t", "\r", "a\tb", "\x00", "\v", "\f", "\u00a0", "A", "selecT", "_", "a_b", ";", "!", "!=", "\"", ".", "/", "%", "[", "{", "`", ":", "@", "~", "\x7f", "\xff", "é",
		strings.Repeat("x", 1000000), "'" + strings.Repeat("x", 1000000),
	} {
		if got, ok := Split(sql); ok || got != nil {
			t.Errorf("P4: Split(%.20q) = %v, %v, want nothing", sql, got, ok)
		}
	}
}

// Every byte alone, and every byte inside a text.
func TestBytes(t *testing.T) {
	for c := 0; c < 256; c++ {
		one := string([]byte{byte(c)})
		want := strings.Contains("abcdefghijklmnopqrstuvwxyz0123456789(),*=+-<> \n", one)
		if _, ok := Split(one); ok != want {
			t.Errorf("P4: the byte %d alone: %v, want %v", c, ok, want)
		}
		want = c >= 32 && c <= 126 && c != '\''
		if _, ok := Split("'" + one + "'"); ok != want {
			t.Errorf("P4: the byte %d in a text: %v, want %v", c, ok, want)
		}
	}
}

func TestKeywords(t *testing.T) {
	for _, k := range strings.Fields("create table insert into values update set where delete from select and or not int text count sum") {
		if got, ok := Split(k); !ok || !reflect.DeepEqual(got, []Word{m(k)}) {
			t.Errorf("P4: %q = %v, want a keyword", k, got)
		}
		if got, ok := Split(k + "x"); !ok || !reflect.DeepEqual(got, []Word{n(k + "x")}) {
			t.Errorf("P4: %q = %v, want a name", k+"x", got)
		}
	}
	for _, w := range []string{"drop", "order", "by", "is", "null", "max", "values1", "nota"} {
		if got, ok := Split(w); !ok || !reflect.DeepEqual(got, []Word{n(w)}) {
			t.Errorf("P4: %q = %v, want a name", w, got)
		}
	}
}
