package engine

import (
	"reflect"
	"testing"

	"sqlproof/data"
	"sqlproof/store"
	"sqlproof/syntax"
	"sqlproof/tree"
)

// nobody is a trail that no one asks.
func nobody() *tree.Trail { return new(tree.Trail) }

func run(t *testing.T, s store.Store, list ...string) store.Store {
	t.Helper()
	for _, sql := range list {
		reply, next := Run(s.Tree, sql, nobody())
		if reply == "" || reply[0] == '!' {
			t.Fatalf("Run(%q) = %q", sql, reply)
		}
		s.Tree = next
	}
	return s
}

func made(t *testing.T) store.Store {
	return run(t, store.Store{}, "create table u (k int)", "create table t (id int, a int, b text)", "insert into t values (1, 5, 'x')", "insert into t values (-1, 6, 'y')")
}

// P3: to decide turns nothing, also in rows that an update would turn; what was
// applied is another store.
func TestDecideTurnsNothing(t *testing.T) {
	s, same := made(t), made(t)
	for _, sql := range []string{"create table v (id int)", "insert into t values (3, 1, '')", "update t set a = 0, b = 'z'", "delete from t", "select * from t", "x"} {
		o := decide(s, sql, nobody())
		apply(s, o, nobody())
		if !reflect.DeepEqual(s, same) {
			t.Fatalf("P3: decide(%q), or apply, turned the store", sql)
		}
	}
}

// P3: what is refused, and what only asks, has nothing to turn.
func TestNothingToTurn(t *testing.T) {
	s := made(t)
	for _, sql := range []string{"create table t (id int)", "insert into t values (1, 1, '')", "update t set id = 1", "delete from v", "select * from t", "select count from t", "update t set a = 9 where a > 6", "delete from t where id = 7", "x"} {
		o := decide(s, sql, nobody())
		if o.makes || len(o.puts)+len(o.cuts) > 0 {
			t.Errorf("P3: decide(%q) = %+v", sql, o)
		}
	}
}

// P7: rows are put and taken away in the order of their keys, whether or not a
// put row is another than it was.
func TestTurns(t *testing.T) {
	s := made(t)
	table := s.Tables(nobody())[1]
	row := func(key int64, a int64, b string) store.Row {
		return store.Row{Cells: []data.Value{data.OfNumber(key), data.OfNumber(a), data.OfText(b)}}
	}
	for _, c := range []struct {
		sql  string
		want outcome
	}{
		{"update t set a = a", outcome{reply: "2;", table: table, puts: []store.Row{row(-1, 6, "y"), row(1, 5, "x")}}},
		{"update t set a = id + a where b = 'x'", outcome{reply: "1;", table: table, puts: []store.Row{row(1, 6, "x")}}},
		{"delete from t", outcome{reply: "2;", table: table, cuts: []int64{-1, 1}}},
		{"insert into t values (0, 0, '')", outcome{reply: "1;", table: table, puts: []store.Row{row(0, 0, "")}}},
		{"create table v (k int)", outcome{reply: "0;", makes: true, table: store.Table{Number: 3, Name: "v", Columns: []data.Column{{Name: "k", Kind: data.Int}}}}},
	} {
		if got := decide(s, c.sql, nobody()); !reflect.DeepEqual(got, c.want) {
			t.Errorf("P7: decide(%q) = %+v, want %+v", c.sql, got, c.want)
		}
	}
}

// P1: lists that no statement gives, and terms that name nothing, end all the same.
func TestOddSteps(t *testing.T) {
	columns := []data.Column{{Name: "id", Kind: data.Int}}
	yes := syntax.Step{Op: "="}
	for _, steps := range [][]syntax.Step{{{Op: "not"}}, {{Op: "and"}}, {{Op: "or"}, {Op: "or"}}, {yes, {Op: "and"}}, {yes, yes}, {{Op: "=", Left: syntax.Term{Column: "x"}}}} {
		meets(columns, store.Row{}, steps)
		spanOf(columns, steps)
	}
}
