package engine

import (
	"reflect"
	"testing"

	"sqlproof/data"
	"sqlproof/store"
	"sqlproof/syntax"
)

func run(t *testing.T, s store.Store, list ...string) store.Store {
	t.Helper()
	for _, sql := range list {
		o := Decide(s, sql)
		if o.Reply == "" || o.Reply[0] == '!' {
			t.Fatalf("Decide(%q) = %q", sql, o.Reply)
		}
		s = Apply(s, o)
	}
	return s
}

func made(t *testing.T) store.Store {
	return run(t, store.Store{}, "create table u (k int)", "create table t (id int, a int, b text)", "insert into t values (1, 5, 'x')", "insert into t values (-1, 6, 'y')")
}

// P3: to decide turns nothing, also in rows that an update would turn; what was
// applied is another store.
func TestDecideTurnsNothing(t *testing.T) {
	s, same := made(t), made(t)
	for _, sql := range []string{"create table v (id int)", "insert into t values (3, 1, '')", "update t set a = 0, b = 'z'", "delete from t", "select * from t", "x"} {
		o := Decide(s, sql)
		Apply(s, o)
		if !reflect.DeepEqual(s, same) {
			t.Fatalf("P3: Decide(%q), or Apply, turned the store", sql)
		}
	}
}

// P3: what is refused, and what only asks, has nothing to turn.
func TestNothingToTurn(t *testing.T) {
	s := made(t)
	for _, sql := range []string{"create table t (id int)", "insert into t values (1, 1, '')", "update t set id = 1", "delete from v", "select * from t", "select count from t", "update t set a = 9 where a > 6", "delete from t where id = 7", "x"} {
		o := Decide(s, sql)
		if o.Makes || o.Name != "" || len(o.Columns)+len(o.Puts)+len(o.Cuts) > 0 {
			t.Errorf("P3: Decide(%q) = %+v", sql, o)
		}
	}
}

// P7: rows are put and taken away in the order of their keys, whether or not a
// put row is another than it was.
func TestTurns(t *testing.T) {
	s := made(t)
	row := func(key int64, a int64, b string) store.Row {
		return store.Row{Cells: []data.Value{data.OfNumber(key), data.OfNumber(a), data.OfText(b)}}
	}
	for _, c := range []struct {
		sql  string
		want Outcome
	}{
		{"update t set a = a", Outcome{Reply: "2;", Table: 2, Puts: []store.Row{row(-1, 6, "y"), row(1, 5, "x")}}},
		{"update t set a = id + a where b = 'x'", Outcome{Reply: "1;", Table: 2, Puts: []store.Row{row(1, 6, "x")}}},
		{"delete from t", Outcome{Reply: "2;", Table: 2, Cuts: []int64{-1, 1}}},
		{"insert into t values (0, 0, '')", Outcome{Reply: "1;", Table: 2, Puts: []store.Row{row(0, 0, "")}}},
		{"create table v (k int)", Outcome{Reply: "0;", Makes: true, Name: "v", Columns: []data.Column{{Name: "k", Kind: data.Int}}}},
	} {
		if got := Decide(s, c.sql); !reflect.DeepEqual(got, c.want) {
			t.Errorf("P7: Decide(%q) = %+v, want %+v", c.sql, got, c.want)
		}
	}
}

// P1: lists that no statement gives, and terms that name nothing, end all the same.
func TestOddSteps(t *testing.T) {
	columns := []data.Column{{Name: "id", Kind: data.Int}}
	yes := syntax.Step{Op: "="}
	for _, steps := range [][]syntax.Step{{{Op: "not"}}, {{Op: "and"}}, {{Op: "or"}, {Op: "or"}}, {yes, {Op: "and"}}, {yes, yes}, {{Op: "=", Left: syntax.Term{Column: "x"}}}} {
		meets(columns, store.Row{}, steps)
	}
}
