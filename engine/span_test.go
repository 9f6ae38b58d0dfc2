package engine

import (
	"testing"

	"sqlproof/api"
	"sqlproof/data"
	"sqlproof/syntax"
)

func TestSpan(t *testing.T) {
	const low, high = api.Low, api.High
	columns := []data.Column{{Name: "id", Kind: data.Int}, {Name: "a", Kind: data.Int}, {Name: "b", Kind: data.Text}, {Name: "id", Kind: data.Int}}
	for _, c := range []struct {
		where     string
		low, high int64
	}{
		{"", low, high},
		{" where id = 5", 5, 5},
		{" where id <> 5", low, high},
		{" where id < 5", low, 4},
		{" where id <= 5", low, 5},
		{" where id > 5", 6, high},
		{" where id >= 5", 5, high},
		{" where id >= - 999999999", -999999999, high},
		{" where id < -999999999", low, -1000000000},
		{" where id > 999999999", 1000000000, high},
		// on either side
		{" where 5 = id", 5, 5},
		{" where 5 <> id", low, high},
		{" where 5 < id", 6, high},
		{" where 5 <= id", 5, high},
		{" where 5 > id", low, 4},
		{" where 5 >= id", low, 5},
		// any other comparison
		{" where a = 5", low, high},
		{" where 5 = a", low, high},
		{" where id = a", low, high},
		{" where a = id", low, high},
		{" where id = id", low, high},
		{" where 5 = 6", low, high},
		{" where 5 < 4", low, high},
		{" where b = 'x'", low, high},
		{" where 'x' = 'y'", low, high},
		// the contrary
		{" where not id = 5", low, high},
		{" where not id <> 5", 5, 5},
		{" where not id < 5", 5, high},
		{" where not id <= 5", 6, high},
		{" where not id > 5", low, 5},
		{" where not id >= 5", low, 4},
		{" where not 5 < id", low, 5},
		{" where not 5 >= id", 6, high},
		{" where not not id = 5", 5, 5},
		{" where not a = 5", low, high},
		{" where not (id < 5 or id > 7)", 5, 7},
		{" where not (id < 5 and id > 2)", low, high},
		{" where not (id < 5 and a > 2)", low, high},
		{" where not (id < 5 or a > 2)", 5, high},
		{" where not (id <> 5 or not id >= 3)", 5, 5},
		{" where not (not id = 5 and not id = 8)", 5, 8},
		{" where not (id >= 5 and id <= 9)", low, high},
		{" where not (id >= 5 and (id = 2 or id = 3))", low, high},
		{" where not (id >= 5 and id >= 9)", low, 8},
		// and, or
		{" where id > 2 and id < 9", 3, 8},
		{" where id > 2 and id > 5 and id < 9 and id <= 7", 6, 7},
		{" where id > 5 and id > 2 and id <= 7 and id < 9", 6, 7},
		{" where id = 3 and a = 5", 3, 3},
		{" where id = 3 or a = 5", low, high},
		{" where id = 3 or id = 30", 3, 30},
		{" where id = 30 or id = 3", 3, 30},
		{" where id < 3 or id > 30", low, high},
		{" where id = 3 or id = 5 or id = 4", 3, 5},
		{" where id = 4 or id > 2 and id < 9", 3, 8},
		{" where (id = 4 or id > 2) and id < 9", 3, 8},
		{" where id = 1 and a < 3 or not id > 7", low, 7},
		// no keys
		{" where id = 1 and id = 2", 2, 1},
		{" where id < 3 and id > 3", 4, 2},
		{" where id = 1 and id = 2 or id = 5", 5, 5},
		{" where id = 5 or id = 1 and id = 2", 5, 5},
		{" where id = 5 or id = 100 and id = 2", 5, 5},
		{" where id = 50 or id = 100 and id = 2", 50, 50},
		{" where (id = 5 or id = 100 and id = 2) and id < 9", 5, 5},
		{" where (id = 1 and id = 2 or id = 3 and id = 4) and id > 0", 4, 3},
		{" where not (id <> 1 or id <> 2)", 2, 1},
		{" where not (id <> 1 or id <> 2) or id = 7", 7, 7},
	} {
		statement, e := syntax.Parse("select * from t" + c.where)
		if e != api.OK {
			t.Fatalf("%q is %d", c.where, e)
		}
		got := spanOf(columns, statement.Where)
		if got.hasKeys() != (c.low <= c.high) || got.hasKeys() && got != (span{c.low, c.high}) {
			t.Errorf("P12: the span of%s is %d to %d, want %d to %d", c.where, got.low, got.high, c.low, c.high)
		}
	}
}

// A column of the key's name further to the right is not the key's own.
func TestSpanKey(t *testing.T) {
	columns := []data.Column{{Name: "k", Kind: data.Int}, {Name: "id", Kind: data.Int}}
	statement, _ := syntax.Parse("select * from t where id = 5")
	if got := spanOf(columns, statement.Where); got != allKeys() {
		t.Errorf("P12: the span is %v", got)
	}
}
