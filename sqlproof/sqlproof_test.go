package sqlproof_test

import (
	"fmt"
	"math/rand"
	"strings"
	"testing"

	"sqlproof/api"
	"sqlproof/sqlproof"
)

// pair is a statement and its reply.
type pair struct{ sql, reply string }

func fresh(t *testing.T) *sqlproof.Server {
	t.Helper()
	s, e := sqlproof.New(16)
	if s == nil || e != api.OK {
		t.Fatalf("P3: New(16) = %v, %d", s != nil, e)
	}
	return s
}

// filled is a server that has run statements, none of which is refused.
func filled(t *testing.T, list ...string) *sqlproof.Server {
	t.Helper()
	s := fresh(t)
	for _, sql := range list {
		if a := s.Run(sql); strings.HasPrefix(a.Reply, "!") {
			t.Fatalf("Run(%q).Reply = %q", sql, a.Reply)
		}
	}
	return s
}

// play peeks at each statement and runs it; what is refused must turn nothing.
func play(t *testing.T, promise string, s *sqlproof.Server, list []pair) {
	t.Helper()
	for _, p := range list {
		before := dump(s)
		peeked := s.Peek(p.sql)
		if peeked.Reply != p.reply {
			t.Errorf("%s: Peek(%q).Reply = %q, want %q", promise, p.sql, peeked.Reply, p.reply)
		}
		if after := dump(s); after != before {
			t.Errorf("P3: Peek(%q) turned %q into %q", p.sql, before, after)
		}
		if a := s.Run(p.sql); a.Reply != p.reply || a != peeked || a.Root != s.Root() {
			t.Errorf("%s: Run(%q) = %q, want %q, Peek %q", promise, p.sql, a, p.reply, peeked)
		}
		asks := strings.HasPrefix(p.reply, "!") || strings.HasPrefix(p.sql, "select")
		if after := dump(s); asks && after != before {
			t.Errorf("P3: Run(%q) turned %q into %q", p.sql, before, after)
		}
	}
}

// dump tells the root, and all rows of the tables that these tests use.
func dump(s *sqlproof.Server) string {
	out := fmt.Sprintf("%x\n", s.Root())
	for _, name := range strings.Fields("t u v w x a b c d e f g tt k1 abcdefgh") {
		out += name + ":" + s.Peek("select * from "+name).Reply + "\n"
	}
	return out
}

const three = "create table t (id int, a int, b text)|insert into t values (2, -5, 'x')|insert into t values (-1, 7, '')|insert into t values (10, 7, 'yy')"

// The statements and replies of the document's table.
func TestExamples(t *testing.T) {
	for _, wide := range []int{1, 4, 32} {
		s, _ := sqlproof.New(wide)
		play(t, "P6", s, []pair{
			{"create table t (id int, a int, b text)", "0;"},
			{"insert into t values (2, -5, 'x')", "1;"},
			{"insert into t values (-1, 7, '')", "1;"},
			{"insert into t values (10, 7, 'yy')", "1;"},
			{"select b, id from t where a = 7", "'',-1;'yy',10;"},
			{"insert into t values (2, 0, '')", "!8"},
			{"update t set a = a + 1 where id > 0", "2;"},
			{"create table u (k int)", "0;"},
			{"insert into u values (5)", "1;"},
			{"insert into u values (4)", "1;"},
			{"insert into u values (6)", "1;"},
			{"select * from u where k >= 5 and k < 6", "5;"},
			{"select count from t where b = ''", "1;"},
			{"delete from t where id = 2", "1;"},
			{"delete from u where k > 4", "2;"},
			{"nonsense", "!3"},
			{"insert into t values (1a)", "!3"},
			{"select * from t where 'a' < 'b'", "-1,7,'';10,8,'yy';"},
			{"select * from t where id = 1 and id = 2", ""},
			{"select id from t where id = 1 and a < 3 or not id > 7", "-1;"},
		})
	}
}

func TestP1AnyText(t *testing.T) {
	s := filled(t, strings.Split(three, "|")...)
	long := strings.Repeat("select * from t where not (", 400000)
	for _, sql := range []string{"", "\x00", "'", "-", "(", long, strings.Repeat("'", 160), strings.Repeat("\xff", 1<<20), "select * from t where " + strings.Repeat("(", 138), "select * from t where " + strings.Repeat("not ", 34)} {
		want := "!3"
		if len(sql) > 160 {
			want = "!2"
		}
		for _, a := range []api.Answer{s.Peek(sql), s.Run(sql)} {
			if a.Reply != want {
				t.Errorf("P1: %.30q of %d bytes: %q, want %q", sql, len(sql), a.Reply, want)
			}
		}
	}
	r := rand.New(rand.NewSource(1))
	parts := strings.Split("create table |insert into |values |update |set |where |delete from |select |and |or |not |int |text |count |sum |t |u |id |a |b |c |( |) |, |* |= |+ |- |< |> |<> |<= |>= |0 |7 |999999999 |'x' |'|\n|\x00|A|'thirteen byte'", "|")
	for i := 0; i < 20000; i++ {
		sql := ""
		for k := r.Intn(24); k > 0; k-- {
			sql += parts[r.Intn(len(parts))]
		}
		peeked, ran := s.Peek(sql), s.Run(sql)
		if peeked != ran {
			t.Fatalf("P3: Peek(%q) = %v, Run %v", sql, peeked, ran)
		}
	}
}

// A server that New has not made is none, or is empty; its calls end all the same.
func TestP1NoServer(t *testing.T) {
	none, e := sqlproof.New(0)
	if none != nil || e != api.ErrWide {
		t.Fatalf("P3: New(0) = %v, %d", none, e)
	}
	if a, b := none.Run("select * from t"), none.Peek("select * from t"); a != (api.Answer{}) || b != (api.Answer{}) {
		t.Errorf("P1: no server answers %v, %v", a, b)
	}
	if none.Root() != "" {
		t.Error("P1: no server has a root")
	}
	var empty sqlproof.Server
	empty.Root()
	for _, s := range []*sqlproof.Server{none, &empty} {
		for _, proof := range []string{"", "\x00", "\x01\x00", "\x01\x01\x00\x00\x00\x00\x00\x00"} {
			if x, y, ok := s.Clash(proof); ok || x != "" || y != "" {
				t.Errorf("P1: no server's Clash(%q) = %q, %q, %v", proof, x, y, ok)
			}
		}
	}
	if a := empty.Run("select * from t"); a.Reply != "!4" {
		t.Errorf("P1: an empty server answers %v", a)
	}
}

// P1: where several errors apply, the answer is the one named first.
func TestP1FirstError(t *testing.T) {
	s := filled(t, strings.Split(three+"|create table u (k int)", "|")...)
	play(t, "P1", s, []pair{
		{"create table t (a int, a int, a int, a int, a int)", "!5"},
		{"create table v (a int, a int, a int, a int, a int)", "!6"},
		{"insert into v values (1, 'x')", "!4"},
		{"insert into t values ('a', 'b')", "!6"},
		{"insert into t values (2, 'b', 'c')", "!7"},
		{"insert into t values ('2', 1, 'c')", "!7"},
		{"insert into t values (2, 1, 2)", "!7"},
		{"update v set id = 'x' where 1 = 'a'", "!4"},
		{"update t set c = 'x', id = 1", "!4"},
		{"update t set id = c", "!8"},
		{"update t set id = 1, id = 2", "!8"},
		{"update t set id = 'x' where c = 1", "!8"},
		{"update t set a = 1, a = c", "!5"},
		{"update t set a = 1, a = 'x', id = 3", "!5"},
		{"update t set a = 1, b = 'x', a = 'x'", "!5"},
		{"update t set a = c + d", "!4"},
		{"update t set a = b + c", "!7"},
		{"update t set b = a + c", "!7"},
		{"update t set b = b + c", "!4"},
		{"update t set a = a + c, id = 1", "!4"},
		{"update t set a = a + 'x', c = 1", "!7"},
		{"update t set b = 'x' - 'y', c = 1", "!7"},
		{"update t set a = 'x', c = 1", "!7"},
		{"update t set a = 999999999 + a, a = 1 where c = 1", "!5"},
		{"update t set a = 1 where c = 'x' and 1 = 'x'", "!4"},
		{"update t set a = 1 where 1 = 'x' and c = 1", "!7"},
		{"select c from v where 1 = 'a'", "!4"},
		{"select a, c from t where 1 = 'x'", "!4"},
		{"select sum (b) from t where c = 1", "!7"},
		{"select sum (c) from t where 1 = 'x'", "!4"},
		{"select * from t where 'x' = c", "!4"},
		{"select * from t where c = d", "!4"},
		{"select * from t where 1 = 1 or 'x' = 1", "!7"},
		{"select * from t where 1 = 2 and (2 = 2 or not b = a) and c = 1", "!7"},
		{"select * from t where 1 = 2 and (2 = 2 or not c = a) and b = 1", "!4"},
		{"select * from u where k = 1 and a = 1", "!4"},
		{"delete from v where c = 1", "!4"},
		{"delete from t where c = 1", "!4"},
		{"delete from t where id = ''", "!7"},
	})
}

// P2: no server sees another, whatever their calls' order.
func TestP2(t *testing.T) {
	one, other := fresh(t), fresh(t)
	one.Run("create table t (id int)")
	play(t, "P2", other, []pair{{"select * from t", "!4"}, {"create table t (id int, a text)", "0;"}, {"insert into t values (1, 'x')", "1;"}})
	play(t, "P2", one, []pair{{"select * from t", ""}, {"insert into t values (1)", "1;"}, {"delete from t", "1;"}})
	play(t, "P2", other, []pair{{"select * from t", "1,'x';"}})
	sqlproof.Check(16, "", "insert into t values (2, '')", "1;", "")
	play(t, "P2", other, []pair{{"select * from t", "1,'x';"}, {"select count from t", "1;"}})
}

func TestP3New(t *testing.T) {
	for wide := -40; wide <= 80; wide++ {
		s, e := sqlproof.New(wide)
		want := api.ErrWide
		if wide >= 1 && wide <= 32 {
			want = api.OK
		}
		if e != want || (s != nil) != (want == api.OK) {
			t.Errorf("P3: New(%d) = %v, %d, want %d", wide, s != nil, e, want)
		}
	}
	for _, wide := range []int{-1 << 63, 1<<63 - 1, 1<<32 + 1} {
		if s, e := sqlproof.New(wide); s != nil || e != api.ErrWide {
			t.Errorf("P3: New(%d) = %v, %d", wide, s != nil, e)
		}
	}
	if a := fresh(t).Run("create table t (id int)"); a.Reply != "0;" {
		t.Errorf("P3: a new server is not without tables: %q", a.Reply)
	}
}

func TestP3Peek(t *testing.T) {
	s := filled(t, strings.Split(three, "|")...)
	before := dump(s)
	for _, p := range []pair{
		{"create table u (id int)", "0;"}, {"insert into t values (3, 1, '')", "1;"}, {"update t set a = 0, b = 'z'", "3;"}, {"delete from t", "3;"}, {"delete from t where id = 2", "1;"}, {"select count from t", "3;"}, {"insert into t values (2, 1, '')", "!8"},
	} {
		for i := 0; i < 3; i++ {
			if a := s.Peek(p.sql); a.Reply != p.reply {
				t.Errorf("P3: Peek(%q).Reply = %q, want %q", p.sql, a.Reply, p.reply)
			}
		}
	}
	if after := dump(s); after != before {
		t.Errorf("P3: peeking turned %q into %q", before, after)
	}
}

func TestP4Words(t *testing.T) {
	s := filled(t, strings.Split(three, "|")...)
	play(t, "P4", s, []pair{
		{"\n select\nid from t where id=2and 1=1or 2=3\n", "2;"},
		{"select id from t where id<-0", "-1;"},
		{"select id from t where id<>-1", "2;10;"},
		{"select id from t where id>=-1", "-1;2;10;"},
		{"select id from t where id < = 1", "!3"},
		{"select id from t where id=<1", "!3"},
		{"select\tid from t", "!3"},
		{"select id from t\r\n", "!3"},
		{"selectid from t", "!3"},
		{"select id fromt", "!3"},
		{"select id from t where b = 'a long text!'", ""},
		{"select id from t where b = 'a long text!!'", "!3"},
		{"select id from t where a = 123456789", ""},
		{"select id from t where a = 0123456789", "!3"},
		{"select abcdefgh from t", "!4"},
		{"select abcdefghi from t", "!3"},
		{"create table k1 (int1 int, x text)", "0;"},
		{"insert into k1 values (0000, '  ''x')", "!3"},
		{"insert into k1 values (0000, '-- ~ ; \"')", "1;"},
		{"insert into k1 values (-0, '')", "!8"},
		{"select * from k1", "0,'-- ~ ; \"';"},
		{"create table from (id int)", "!3"},
		{"create table u (id int, count int)", "!3"},
		{"create table u (id text)", "!3"},
	})
}

func TestP5Create(t *testing.T) {
	s := filled(t, "create table t (id int)")
	play(t, "P5", s, []pair{
		{"create table t (k int)", "!5"},
		{"create table u (a int, b int, c int, d int, e int)", "!6"},
		{"create table u (a int, b int, c int, d int, a int)", "!6"},
		{"create table u (a int, b int, c int, a text)", "!5"},
		{"create table u (a int, b int, b text)", "!5"},
		{"create table u (a int, b int, c text, d text)", "0;"},
		{"create table tt (t int, tt int)", "0;"},
		{"create table v (id int)", "0;"},
		{"create table w (id int)", "0;"},
		{"create table x (id int)", "!10"},
		{"create table x (a int, a int)", "!5"},
		{"create table w (id int)", "!5"},
		{"delete from w", "0;"},
		{"create table x (id int)", "!10"},
	})
}

// rowsUpTo fills table t until there are so many rows and tables.
func rowsUpTo(t *testing.T, s *sqlproof.Server, tables int, all int) {
	t.Helper()
	for i := 0; i < all-tables; i++ {
		sql := fmt.Sprintf("insert into t values (%d)", i*7%61-20)
		if a := s.Run(sql); a.Reply != "1;" {
			t.Fatalf("P5: Run(%q).Reply = %q of %d", sql, a.Reply, i)
		}
	}
}

func TestP5Full(t *testing.T) {
	s := filled(t, "create table t (id int)", "create table u (id int, a int)")
	rowsUpTo(t, s, 2, 59)
	play(t, "P5", s, []pair{
		{"create table v (id int)", "0;"},
		{"create table w (id int)", "!10"},
		{"create table w (id int, id int)", "!5"},
		{"insert into t values (100)", "!10"},
		{"insert into u values (1, 1)", "!10"},
		{"insert into u values (1, 'x')", "!7"},
		{"insert into t values (-20)", "!8"},
		{"update t set id = 1", "!8"},
		{"delete from t where id = -20", "1;"},
		{"insert into u values (1, 1)", "1;"},
		{"insert into t values (-20)", "!10"},
		{"insert into u values (1, 1)", "!8"},
		{"update u set a = 2", "1;"},
		{"delete from u", "1;"},
		{"create table w (id int)", "0;"},
		{"create table x (id int)", "!10"},
		{"select count from t", "56;"},
	})
}

func TestP5Range(t *testing.T) {
	s := filled(t, "create table t (id int, a int, b int)", "insert into t values (1, 999999999, 5)", "insert into t values (2, -999999999, 6)",
		"update t set a = a + a", "update t set a = a + 147483649 where id = 1", "update t set a = a - 147483650 where id = 2")
	play(t, "P5", s, []pair{
		{"select a from t", "2147483647;-2147483648;"},
		{"update t set a = a + 1", "!9"},
		{"update t set a = a - 1", "!9"},
		{"update t set a = 0 - a", "!9"},
		{"update t set a = 0 - a where id = 1", "1;"},
		{"update t set a = 0 - a where id = 1", "1;"},
		{"update t set a = a + 0", "2;"},
		{"update t set a = a - a", "2;"},
		{"update t set a = b - 6", "2;"},
	})
	s = filled(t, "create table t (id int, a int, b int)", "insert into t values (1, 0, 0)", "insert into t values (2, 999999999, 0)",
		"update t set a = a + a", "update t set b = a")
	play(t, "P5", s, []pair{
		{"update t set a = 7, b = a + b", "!9"},
		{"select * from t", "1,0,0;2,1999999998,1999999998;"},
		{"update t set a = a + b where id = 1 or a > b", "1;"},
		{"update t set a = a + b where id > 2", "0;"},
		{"update t set a = 7, b = a + b where id = 2 and 'x' = 1", "!7"},
		{"update t set b = a + 147483649", "2;"},
		{"update t set b = a + 147483650", "!9"},
		{"select sum (b) from t", "2294967296;"},
	})
}

func TestP6(t *testing.T) {
	s := filled(t, "create table t (id int, a text, b int, c text)", "create table u (id int)")
	play(t, "P6", s, []pair{
		{"select * from t", ""},
		{"select id, a from t", ""},
		{"select count from t", "0;"},
		{"select sum (b) from t", "0;"},
		{"update t set b = 1", "0;"},
		{"delete from t", "0;"},
		{"insert into t values (10, 'ten', -10, ',;')", "1;"},
		{"insert into t values (9, '', 0, '12')", "1;"},
		{"insert into t values (-10, ' ', 007, '!3')", "1;"},
		{"insert into t values (-9, '0', -1, '')", "1;"},
		{"select * from t", "-10,' ',7,'!3';-9,'0',-1,'';9,'',0,'12';10,'ten',-10,',;';"},
		{"select c, b, a, id from t where id > 0", "'12',0,'',9;',;',-10,'ten',10;"},
		{"select b, b from t where id = 9", "0,0;"},
		{"select count from t", "4;"},
		{"select count from t where id = 8", "0;"},
		{"select sum (b) from t", "-4;"},
		{"select sum (id) from t where b < 0", "1;"},
		{"update t set b = b where id < 0", "2;"},
		{"delete from t where id < 0", "2;"},
		{"select id from t", "9;10;"},
		{"select * from u", ""},
	})
}

func TestP7(t *testing.T) {
	s := filled(t, "create table t (id int, a int, b int, c text)", "insert into t values (1, 10, 20, 'x')", "insert into t values (2, 30, 40, 'y')", "insert into t values (3, 50, 50, 'xy')")
	play(t, "P7", s, []pair{
		{"select id from t where id = 1 or id = 2 and id = 3", "1;"},
		{"select id from t where id = 3 and id = 2 or id = 1", "1;"},
		{"select id from t where (id = 1 or id = 2) and id = 2", "2;"},
		{"select id from t where not id = 1 and id = 2", "2;"},
		{"select id from t where not id = 1 or id = 1", "1;2;3;"},
		{"select id from t where not (id = 1 or id = 2)", "3;"},
		{"select id from t where not not not id = 1", "2;3;"},
		{"select id from t where a = b", "3;"},
		{"select id from t where a <> b", "1;2;"},
		{"select id from t where a < b", "1;2;"},
		{"select id from t where a <= b", "1;2;3;"},
		{"select id from t where a > b", ""},
		{"select id from t where a >= b", "3;"},
		{"select id from t where c < 'xy'", "1;"},
		{"select id from t where c <= 'xy'", "1;3;"},
		{"select id from t where 'x' < c", "2;3;"},
		{"select id from t where c >= 'xx' and c <> c", ""},
		{"update t set a = b, b = a where id < 3", "2;"},
		{"select a, b from t", "20,10;40,30;50,50;"},
		{"update t set a = b - a, b = a - b", "3;"},
		{"select a, b from t", "-10,10;-10,10;0,0;"},
		{"update t set b = id + id, c = c where a = -10", "2;"},
		{"update t set c = 'z', a = id where not (b = 0)", "2;"},
		{"select * from t", "1,1,2,'z';2,2,4,'z';3,0,0,'xy';"},
		{"delete from t where a = 0 or b = 2", "2;"},
		{"select * from t", "2,2,4,'z';"},
		{"delete from t", "1;"},
		{"select * from t", ""},
	})
}

func TestP8(t *testing.T) {
	s := filled(t, strings.Split(three+"|create table u (k int, c text)|insert into u values (2, 'u')", "|")...)
	play(t, "P8", s, []pair{
		{"update t set a = 0 where id = 2", "1;"},
		{"select * from u", "2,'u';"},
		{"select * from t", "-1,7,'';2,0,'x';10,7,'yy';"},
		{"delete from u where k = 2", "1;"},
		{"select * from t", "-1,7,'';2,0,'x';10,7,'yy';"},
		{"insert into u values (2, 'v')", "1;"},
		{"delete from t where id = 2", "1;"},
		{"insert into t values (2, 1, 'new')", "1;"},
		{"select * from t", "-1,7,'';2,1,'new';10,7,'yy';"},
		{"select * from u", "2,'v';"},
		{"create table v (id int)", "0;"},
		{"select * from t", "-1,7,'';2,1,'new';10,7,'yy';"},
		{"select * from u", "2,'v';"},
		{"delete from t", "3;"},
		{"insert into t values (1, 1)", "!6"},
		{"select count from t", "0;"},
	})
}
