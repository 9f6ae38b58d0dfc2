package syntax

import (
	"reflect"
	"strings"
	"testing"

	"sqlproof/api"
	"sqlproof/data"
)

func col(name string) Term              { return Term{Column: name} }
func num(n int64) Term                  { return Term{Literal: data.OfNumber(n)} }
func txt(s string) Term                 { return Term{Literal: data.OfText(s)} }
func cmp(l Term, s string, r Term) Step { return Step{s, l, r} }
func op(s string) Step                  { return Step{Op: s} }

func TestStatements(t *testing.T) {
	for _, c := range []struct {
		sql  string
		want Statement
	}{
		{"create table t(id int)", Statement{Act: Create, Table: "t", Columns: []data.Column{{Name: "id", Kind: data.Int}}}},
		{"create table t (id int, a text, b int)", Statement{Act: Create, Table: "t", Columns: []data.Column{{Name: "id", Kind: data.Int}, {Name: "a", Kind: data.Text}, {Name: "b", Kind: data.Int}}}},
		{"insert into t values(1)", Statement{Act: Insert, Table: "t", Values: []data.Value{data.OfNumber(1)}}},
		{"insert into t values (-007, 'x', - 999999999, 999999999, '')", Statement{Act: Insert, Table: "t", Values: []data.Value{data.OfNumber(-7), data.OfText("x"), data.OfNumber(-999999999), data.OfNumber(999999999), data.OfText("")}}},
		{"update t set a=1", Statement{Act: Update, Table: "t", Sets: []Set{{Column: "a", First: num(1)}}}},
		{"update t set a = b + -1, c = -2-d, e = 'x', f = g", Statement{Act: Update, Table: "t", Sets: []Set{
			{"a", col("b"), "+", num(-1)}, {"c", num(-2), "-", col("d")}, {Column: "e", First: txt("x")}, {Column: "f", First: col("g")}}}},
		{"update t set a = 1 where b = 2", Statement{Act: Update, Table: "t", Sets: []Set{{Column: "a", First: num(1)}}, Where: []Step{cmp(col("b"), "=", num(2))}}},
		{"delete from t", Statement{Act: Delete, Table: "t"}},
		{"delete from t where 'a'<>b", Statement{Act: Delete, Table: "t", Where: []Step{cmp(txt("a"), "<>", col("b"))}}},
		{"select*from t", Statement{Act: Select, Table: "t", Show: All}},
		{"select count from t", Statement{Act: Select, Table: "t", Show: Count}},
		{"select sum(a)from t", Statement{Act: Select, Table: "t", Show: Sum, Items: []string{"a"}}},
		{"select a from t", Statement{Act: Select, Table: "t", Items: []string{"a"}}},
		{"\nselect a,b , a\nfrom t where 1<=1 ", Statement{Act: Select, Table: "t", Items: []string{"a", "b", "a"}, Where: []Step{cmp(num(1), "<=", num(1))}}},
	} {
		got, e := Parse(c.sql)
		if e != api.OK || !reflect.DeepEqual(got, c.want) {
			t.Errorf("P4: Parse(%q) = %+v, %d, want %+v", c.sql, got, e, c.want)
		}
	}
}

// P7: and binds more than or, not more than and.
func TestConditions(t *testing.T) {
	a, b, c := cmp(col("a"), "=", num(1)), cmp(col("b"), "<", num(2)), cmp(num(-3), ">=", col("c"))
	for _, k := range []struct {
		where string
		want  []Step
	}{
		{"A", []Step{a}},
		{"A or B", []Step{a, b, op("or")}},
		{"A or B and C", []Step{a, b, c, op("and"), op("or")}},
		{"A and B or C", []Step{a, b, op("and"), c, op("or")}},
		{"(A or B) and C", []Step{a, b, op("or"), c, op("and")}},
		{"A and (B or C)", []Step{a, b, c, op("or"), op("and")}},
		{"A or B or C", []Step{a, b, op("or"), c, op("or")}},
		{"not A and B", []Step{a, op("not"), b, op("and")}},
		{"not (A and B)", []Step{a, b, op("and"), op("not")}},
		{"A and not B or C", []Step{a, b, op("not"), op("and"), c, op("or")}},
		{"not not A", []Step{a, op("not"), op("not")}},
		{"((A))", []Step{a}},
		{"not(not(A)or B)", []Step{a, op("not"), b, op("or"), op("not")}},
	} {
		sql := "delete from t where " + strings.NewReplacer("A", "a = 1", "B", "b<2", "C", "- 3>=c").Replace(k.where)
		got, e := Parse(sql)
		if e != api.OK || !reflect.DeepEqual(got.Where, k.want) {
			t.Errorf("P7: Parse(%q).Where = %+v, %d, want %+v", sql, got.Where, e, k.want)
		}
	}
}

func TestNoStatements(t *testing.T) {
	for _, sql := range strings.Split(`;create;create table;create table t;create table t (;create table t ();create table t (id);create table t (id text)
create table t (id int;create table t (id int,);create table t (id int a int);create table t (id int, a);create table t (id int, a text,);create table t id int
create table 1 (id int);create table select (id int);create table t (int int);create table t (id int) t;create t (id int);create table t (id int, 'a' int)
insert;insert into;insert into t;insert into t values;insert into t values ();insert into t values (1;insert into t values (1,);insert into t values (,1);insert into t values (1 2)
insert into t values (a);insert into t values (+1);insert into t values (- -1);insert into t values (-'a');insert into t values (1+1);insert into t values 1;insert t values (1);insert into t (1);insert into t values (1) where 1=1;insert into t values (-)
update;update t;update t set;update t set a;update t set a =;update t set a = 1,;update t set a = 1 +;update t set a = 1 + 2 + 3;update t set a = (1);update t set a <> 1;update t set 1 = a;update t set a = -b;update t set a = 1 where;update t set a = 1 b = 2;update t a = 1;update t set a = + 1;update t set a = 1 * 2;update t set a = - - 1;update t set a = 1, where a = 1
delete;delete t;delete from;delete from t where;delete from t where a;delete from t where a =;delete from t where = a;delete from t a = 1;delete * from t;delete from t, u;delete from t where not;delete from t where ();delete from t where (a = 1;delete from t where a = 1)
delete from t where a = 1 and;delete from t where or a = 1;delete from t where a = 1 a = 2;delete from t where a = 1 not b = 2;delete from t where (a) = 1;delete from t where a = b = c;delete from t where a + 1 = 2;delete from t where a < > 1;delete from t where a = not b;delete from t where and;delete from t where a = 1 and or b = 1;delete from t where not and a = 1;delete from t where a + b;delete from t where a => 1
select;select *;select * from;select from t;select *, a from t;select a, * from t;select a, from t;select a b from t;select ,a from t;select count a from t;select count, a from t;select a, count from t;select (a) from t;select sum from t;select sum a from t;select sum (a from t;select sum (a, b) from t;select sum () from t;select sum (*) from t;select sum (1) from t;select sum(a), b from t;select a, sum(a) from t;select 1 from t;select 'a' from t;select count (a) from t;select count(*) from t;select a from t u;select a from t where;select a from select;select ** from t;select a from t where where a = 1;select * t
drop table t;t;1;'a';*;where a = 1;set a = 1;from t;values (1);table t;count;sum (a);int;nonsense;begin;(select * from t);select * from t select * from t;select * from (t);Select * from t`, ";") {
		for _, one := range strings.Split(sql, "\n") {
			got, e := Parse(one)
			if e != api.ErrParse || !reflect.DeepEqual(got, Statement{}) {
				t.Errorf("P4: Parse(%q) = %+v, %d, want nothing and ErrParse", one, got, e)
			}
		}
	}
}

// P5: ErrLong comes ahead of ErrParse.
func TestLength(t *testing.T) {
	for _, c := range []struct {
		sql string
		e   api.Errno
	}{
		{"select * from t" + strings.Repeat("\n", 145), api.OK},
		{strings.Repeat(" ", 145) + "select * from t", api.OK},
		{"select * from t" + strings.Repeat(" ", 146), api.ErrLong},
		{strings.Repeat("\xff", 160), api.ErrParse},
		{strings.Repeat("\xff", 161), api.ErrLong},
		{strings.Repeat("(", 1<<24), api.ErrLong},
		{"delete from t where " + strings.Repeat("(", 140), api.ErrParse},
		{"delete from t where " + strings.Repeat("(", 68) + "a=1" + strings.Repeat(")", 68), api.OK},
		{"delete from t where " + strings.Repeat("not ", 34) + "a=1", api.OK},
	} {
		if _, e := Parse(c.sql); e != c.e {
			t.Errorf("P5: Parse of %d bytes: %d, want %d", len(c.sql), e, c.e)
		}
	}
}
