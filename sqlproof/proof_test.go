package sqlproof_test

import (
	"encoding/hex"
	"fmt"
	"math/rand"
	"strings"
	"testing"

	"sqlproof/api"
	"sqlproof/sqlproof"
)

// proved is a statement, its reply, and its proof in hexadecimal.
type proved struct{ sql, reply, proof string }

// The proofs of the document's table.
func TestP13Examples(t *testing.T) {
	s, _ := sqlproof.New(4)
	for _, c := range []proved{
		{"create table t (id int, a int, b text)", "0;", "0100"},
		{"insert into t values (2, -5, 'x')", "1;", "010100800000010d01740300026964000161010162"},
		{"insert into t values (-1, 7, '')", "1;", "010200800000010d017403000269640001610101620180000002067ffffffb0178"},
		{"insert into t values (10, 7, 'yy')", "1;", "010300800000010d01740300026964000161010162017fffffff0580000007000180000002067ffffffb0178"},
		{"select b, id from t where a = 7", "'',-1;'yy',10;", "010400800000010d01740300026964000161010162017fffffff0580000007000180000002067ffffffb0178018000000a0780000007027979"},
		{"insert into t values (2, 0, '')", "!8", "010400800000010d01740300026964000161010162017fffffff0580000007000180000002067ffffffb0178018000000a0780000007027979"},
		{"update t set a = a + 1 where id > 0", "2;", "010400800000010d01740300026964000161010162017fffffff0580000007000180000002067ffffffb0178018000000a0780000007027979"},
		{"create table u (k int)", "0;", "010400800000010d01740300026964000161010162017fffffff0580000007000180000002067ffffffc0178018000000a0780000008027979"},
		{"insert into u values (5)", "1;", "0202008000000103010300800000010d0174030002696400016101016200800000020601750100016b017fffffff05800000070001800000020201020180000002067ffffffc0178018000000a0780000008027979"},
		{"insert into u values (4)", "1;", "0202008000000103010300800000010d0174030002696400016101016200800000020601750100016b017fffffff05800000070001800000020301030180000002067ffffffc0178018000000a0780000008027979028000000500"},
		{"insert into u values (6)", "1;", "0202008000000103010300800000010d0174030002696400016101016200800000020601750100016b017fffffff05800000070001800000020401040180000002067ffffffc0178018000000a0780000008027979028000000400028000000500"},
		{"select * from u where k >= 5 and k < 6", "5;", "0203008000000103010300800000010d0174030002696400016101016200800000020601750100016b017fffffff05800000070001800000020300d5eee9d30280000005020102028000000500028000000600"},
		{"select count from t where b = ''", "1;", "0203008000000103010300800000010d0174030002696400016101016200800000020601750100016b017fffffff05800000070001800000020301030180000002067ffffffc0178018000000a078000000802797902800000040002800000050200d4c73edf"},
		{"delete from t where id = 2", "1;", "0203008000000103010300800000010d0174030002696400016101016200800000020601750100016b017fffffff05800000070001800000020301030180000002067ffffffc0178018000000a078000000802797902800000040002800000050200d4c73edf"},
		{"delete from u where k > 4", "2;", "0203008000000103010300800000010d0174030002696400016101016200800000020601750100016b017fffffff058000000700018000000a020102018000000a07800000080279790280000004000280000005020102028000000500028000000600"},
		{"nonsense", "!3", "001b541613"},
	} {
		root, peeked := s.Root(), s.Peek(c.sql)
		ran := s.Run(c.sql)
		if got := hex.EncodeToString([]byte(ran.Proof)); ran.Reply != c.reply || got != c.proof || peeked != ran {
			t.Errorf("P13: Run(%q) = %q, %s, want %q, %s", c.sql, ran.Reply, got, c.reply, c.proof)
		}
		if next, ok := sqlproof.Check(4, root, c.sql, c.reply, ran.Proof); !ok || next != ran.Root {
			t.Errorf("P15: Check of %q = %x, %v, want %x", c.sql, next, ok, ran.Root)
		}
	}
}

// opened are the knots that a proof has open; it must be one of the frame's tree.
func opened(f *frame, proof string, wide int, open map[*knot]bool) string {
	if proof[0] == 0 {
		return proof[1+wide:]
	}
	open[f.knot] = true
	if len(f.kids) == 0 {
		return proof[len(f.bytes):]
	}
	proof = proof[2:]
	for _, c := range f.kids {
		proof = opened(c, proof[6:], wide, open)
	}
	return proof
}

func within(a map[*knot]bool, b map[*knot]bool) bool {
	for k := range a {
		if !b[k] {
			return false
		}
	}
	return true
}

// bushy is a server with three tables and many rows, the naive tree and the model.
func bushy(t *testing.T, r *rand.Rand) (*sqlproof.Server, *wood, model) {
	s, w := neighbours(t)
	m := model{}
	for i := 0; i < 60 && r.Intn(60) > 0; i++ {
		deed := m.insert
		if i%6 == 5 {
			deed = m.step
		}
		d := deed(r)
		s.Run(d.sql)
		m.turn(w, d)
		if i%10 == 0 {
			s.Run(fmt.Sprintf("insert into %c values (%d)", 'u'+i%20/10, i))
			w.put(at(1+i%20/10*2, i), "")
		}
	}
	if s.Root() != w.digest() {
		t.Fatal("the naive tree is another")
	}
	return s, w, m
}

// some are statements of all kinds, refused ones among them.
func some(r *rand.Rand, m model) []string {
	list := []string{"nonsense", strings.Repeat(" ", 161), "select * from w", "select x from t", "insert into t values (1)", "update t set id = 1", "delete from t where b = 1",
		"create table t (id int)", "create table w (id int)", "create table w (id int, id int)", "select * from t where id = 1 and id = 2", "delete from u", "update v set k = 1", "select count from v where k > 20",
		"insert into u values (33)", "insert into v values (-7)", "update t set a = a + 999999999, b = 'q'", "update t set a = 0 - 999999999 where id >= 0"}
	for i := 0; i < 14; i++ {
		copied := model{}
		for id, row := range m {
			copied[id] = row
		}
		list = append(list, copied.step(r).sql)
	}
	return list
}

// P12, P15: a statement's proof is the least one: each node that it has open is
// needed. Any proof of the root that has all these open will do, and no other.
func TestP15OpenNodes(t *testing.T) {
	for seed := int64(0); seed < 24; seed++ {
		r := rand.New(rand.NewSource(seed))
		s, w, m := bushy(t, r)
		root, old, whole := s.Root(), w.start(), map[*knot]bool{}
		for _, k := range old.all() {
			whole[k] = true
		}
		list := some(r, m)
		for _, sql := range list {
			a, need := s.Peek(sql), map[*knot]bool{}
			if rest := opened(old, a.Proof, 16, need); rest != "" || old.proof(need, 16) != a.Proof {
				t.Fatalf("P13: the proof of %q is none of this tree: %x", sql, a.Proof)
			}
			try := func(what string, open map[*knot]bool) {
				next, ok := sqlproof.Check(16, root, sql, a.Reply, old.proof(open, 16))
				if ok != within(need, open) || ok && next != a.Root || !ok && next != "" {
					t.Errorf("P15: seed %d: Check of %q with %s = %x, %v", seed, sql, what, next, ok)
				}
			}
			try("its proof", need)
			try("all open", whole)
			for k := range need {
				less := map[*knot]bool{}
				for other := range need {
					less[other] = other != k
				}
				try("one node shut", less)
			}
			for _, other := range list {
				open := map[*knot]bool{}
				opened(old, s.Peek(other).Proof, 16, open)
				try("the proof of "+other, open)
			}
		}
	}
}

// P15: another reply, root, width or statement, and a proof that is turned, cut or
// longer, are not accepted.
func TestP15Wrong(t *testing.T) {
	r := rand.New(rand.NewSource(9))
	s, _, m := bushy(t, r)
	root := s.Root()
	for _, sql := range some(r, m) {
		a := s.Peek(sql)
		refuse := func(what string, wide int, root string, reply string, proof string) {
			if next, ok := sqlproof.Check(wide, root, sql, reply, proof); ok || next != "" {
				t.Errorf("P15: Check of %q with %s = %x, %v", sql, what, next, ok)
			}
		}
		for _, reply := range []string{"", ";", "0", a.Reply + ";", a.Reply + " ", "!", "!0", "!11", " " + a.Reply} {
			if reply != a.Reply {
				refuse("the reply "+reply, 16, root, reply, a.Proof)
			}
		}
		for _, other := range []string{"", root[:15], root + "\x00", root[1:] + root[:1], strings.Repeat("\x00", 16)} {
			refuse("another root", 16, other, a.Reply, a.Proof)
		}
		for _, wide := range []int{-1 << 63, -1, 0, 1, 15, 17, 32, 33, 1<<63 - 1} {
			refuse(fmt.Sprint("width ", wide), wide, root, a.Reply, a.Proof)
			if wide >= 0 && wide < 16 {
				refuse(fmt.Sprint("width ", wide), wide, root[:wide], a.Reply, a.Proof)
			}
		}
		for i := range a.Proof {
			b := []byte(a.Proof)
			b[i] ^= byte(1 << r.Intn(8))
			refuse(fmt.Sprint("byte ", i, " turned"), 16, root, a.Reply, string(b))
			refuse("a part of the proof", 16, root, a.Reply, a.Proof[:i])
		}
		for _, proof := range []string{a.Proof + "\x00", "\x00" + a.Proof, a.Proof + a.Proof, strings.Repeat("\x00", 6001)} {
			refuse("another proof", 16, root, a.Reply, proof)
		}
	}
}

// P12: what is refused touches table 0 alone, but for an insert that is refused at
// its place, and an update that is refused for its sums: it has looked through.
func TestP12Refused(t *testing.T) {
	s, w := neighbours(t)
	for i := 0; i < api.MaxRows-3; i++ {
		s.Run(fmt.Sprintf("insert into t values (%d, 999999999, '')", i))
		w.put(at(2, i), four(999999999)+short(""))
	}
	s.Run("update t set a = a + a")
	for i := 0; i < api.MaxRows-3; i++ {
		w.put(at(2, i), four(1999999998)+short(""))
	}
	none := func() {}
	for _, c := range []struct {
		sql, reply string
		more       func() // what is touched beside table 0
	}{
		{"select * from w", "!4", none},
		{"select x from t", "!4", none},
		{"select sum (b) from t", "!7", none},
		{"select * from t where x = 1", "!4", none},
		{"select * from t where id = 'x'", "!7", none},
		{"insert into t values (1)", "!6", none},
		{"insert into t values (1, 'x', 1)", "!7", none},
		{"update t set id = 1", "!8", none},
		{"update t set a = 'x'", "!7", none},
		{"delete from t where a = b", "!7", none},
		{"create table t (id int)", "!5", none},
		{"create table w (id int, id int)", "!5", none},
		{"create table w (a int, b int, c int, d int, e int)", "!6", none},
		{"create table w (id int)", "!10", none},
		{"insert into t values (30, 0, '')", "!8", func() { w.path(at(2, 30)) }},
		{"insert into t values (-1, 0, '')", "!10", func() { w.path(at(2, -1)) }},
		{"insert into v values (1)", "!10", func() { w.path(at(3, 1)) }},
		{"update t set a = a + 147483650 where id = 20", "!9", func() { w.look(at(2, 20), at(2, 20)) }},
		{"update t set a = a + 147483650 where 20 <= id and not id > 30", "!9", func() { w.look(at(2, 20), at(2, 30)) }},
		{"select * from t where id = 1 and id = 2", "", none},
		{"delete from t where id < 2 and id > 1", "0;", none},
		{"update t set a = a + a where id < 2 and id > 2", "0;", none},
	} {
		root, old := s.Root(), w.start()
		w.look(0, tables0)
		c.more()
		a := s.Run(c.sql)
		if want := old.proof(w.touched, 16); a.Reply != c.reply || a.Proof != want || a.Root != root {
			t.Errorf("P12: Run(%q) = %q, want %q; the proof is %x, want %x", c.sql, a.Reply, c.reply, a.Proof, want)
		}
		if next, ok := sqlproof.Check(16, root, c.sql, a.Reply, a.Proof); !ok || next != root {
			t.Errorf("P15: Check of %q = %x, %v", c.sql, next, ok)
		}
	}
	for sql, reply := range map[string]string{"": "!3", "select": "!3", strings.Repeat(" ", 161): "!2", "select * from t where id = 1 or 1 = 'x": "!3"} {
		if a := s.Run(sql); a.Reply != reply || a.Proof != "\x00"+s.Root() {
			t.Errorf("P12: Run(%q) = %q, %x", sql, a.Reply, a.Proof)
		}
	}
}

// P12: the span's bounds are those of the document's words, also where a leaf ends.
func TestP12Span(t *testing.T) {
	s, w := neighbours(t)
	for i := 0; i < 50; i++ {
		s.Run(fmt.Sprintf("insert into t values (%d, 0, '')", 10*i))
		w.put(at(2, 10*i), four(0)+short(""))
	}
	for _, c := range []struct {
		where string
		span  keys
	}{
		{"id = 1 and a < 3 or not id > 7", keys{-1 << 31, 7}},
		{"id > 99 and 203 >= id", keys{100, 203}},
		{"id >= 99 and 203 > id", keys{99, 202}},
		{"id = 250 or 300 = id", keys{250, 300}},
		{"not (id <> 250)", keys{250, 250}},
		{"id <> 250", everyKey},
		{"not id = 250", everyKey},
		{"id = 250 or id = 1 and id = 2", keys{250, 250}},
		{"a = 0", everyKey},
		{"250 = 251", everyKey},
		{"id = id", everyKey},
		{"id = a and id < 30", keys{-1 << 31, 29}},
		{"not (id < 30 or id > 60 or a = 1)", keys{30, 60}},
	} {
		for _, sql := range []string{"select count from t where ", "update t set b = 'x' where "} {
			old := w.start()
			w.look(0, tables0)
			w.look(at(2, c.span.low), at(2, c.span.high))
			if got, want := s.Peek(sql+c.where).Proof, old.proof(w.touched, 16); got != want {
				t.Errorf("P12: the proof of %s%s is %x, want %x", sql, c.where, got, want)
			}
		}
	}
}

// P2: a Check knows of nothing but what it is told, and leaves a server alone.
func TestP2Check(t *testing.T) {
	s := filled(t, strings.Split(three, "|")...)
	before := dump(s)
	a := s.Peek("delete from t")
	root := s.Root()
	for i := 0; i < 3; i++ {
		if next, ok := sqlproof.Check(16, root, "delete from t", "3;", a.Proof); !ok || next != a.Root {
			t.Errorf("P2: Check for the time %d = %x, %v", i, next, ok)
		}
	}
	if dump(s) != before {
		t.Error("P2: Check turned a server")
	}
	s.Run("delete from t")
	if next, ok := sqlproof.Check(16, root, "delete from t", "3;", a.Proof); !ok || next != a.Root {
		t.Errorf("P2: Check behind the statement = %x, %v", next, ok)
	}
}
