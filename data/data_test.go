package data

import "testing"

// P4: numbers by their size, texts byte by byte, a beginning ahead of the whole.
func TestCompare(t *testing.T) {
	order := []Value{
		OfNumber(-1 << 31), OfNumber(-10), OfNumber(-9), OfNumber(0), OfNumber(9), OfNumber(10), OfNumber(1<<31 - 1),
		OfText(""), OfText(" "), OfText("10"), OfText("9"), OfText("A"), OfText("a"), OfText("a "), OfText("ab"), OfText("abc"), OfText("b"), OfText("~"), OfText("\xff"),
	}
	for i, v := range order {
		for j, w := range order {
			want := 0
			if i < j {
				want = -1
			} else if i > j {
				want = 1
			}
			if got := v.Compare(w); got != want {
				t.Errorf("P4: %v against %v: %d, want %d", v, w, got, want)
			}
		}
	}
}

// P6: texts in quotes, numbers in decimal.
func TestWritten(t *testing.T) {
	for _, c := range []struct {
		value Value
		want  string
	}{
		{OfNumber(0), "0"}, {OfNumber(-1 << 31), "-2147483648"}, {OfNumber(1<<31 - 1), "2147483647"}, {OfNumber(7), "7"},
		{OfText(""), "''"}, {OfText("a,b;"), "'a,b;'"}, {OfText("7"), "'7'"},
	} {
		if got := c.value.Written(); got != c.want {
			t.Errorf("P6: %v is written %q, want %q", c.value, got, c.want)
		}
	}
}

func TestFind(t *testing.T) {
	columns := []Column{{"id", Int}, {"a", Text}, {"a", Int}}
	for name, want := range map[string]int{"id": 0, "a": 1, "b": -1, "": -1, "i": -1} {
		if got := Find(columns, name); got != want {
			t.Errorf("Find(%q) = %d, want %d", name, got, want)
		}
	}
	if got := Find(nil, "a"); got != -1 {
		t.Errorf("Find in no columns = %d", got)
	}
}
