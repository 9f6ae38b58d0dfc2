package sqlproof_test

import (
	"crypto/sha256"
	"encoding/hex"
	"fmt"
	"math/rand"
	"strings"
	"testing"

	"sqlproof/api"
	"sqlproof/sqlproof"
)

// rooted is a statement, its reply, and the root behind it, in hexadecimal.
type rooted struct{ sql, reply, root string }

func walk(t *testing.T, wide int, first string, list []rooted) {
	t.Helper()
	s, _ := sqlproof.New(wide)
	before := s.Root()
	if got := hex.EncodeToString([]byte(before)); got != first {
		t.Errorf("P11: at first the root of width %d is %s, want %s", wide, got, first)
	}
	for _, c := range list {
		peeked := s.Peek(c.sql)
		if s.Root() != before {
			t.Errorf("P3: Peek(%q) turned the root", c.sql)
		}
		ran := s.Run(c.sql)
		if got := hex.EncodeToString([]byte(ran.Root)); ran.Reply != c.reply || got != c.root || s.Root() != ran.Root || peeked != ran {
			t.Errorf("P11: Run(%q) = %q, %s, want %q, %s; Peek %q, %x; Root %x", c.sql, ran.Reply, got, c.reply, c.root, peeked.Reply, peeked.Root, s.Root())
		}
		before = s.Root()
	}
}

// The roots of the document's table.
func TestP11Examples(t *testing.T) {
	walk(t, 4, "47dc540c", []rooted{
		{"create table t (id int, a int, b text)", "0;", "2b6842d1"},
		{"insert into t values (2, -5, 'x')", "1;", "d8c453cf"},
		{"insert into t values (-1, 7, '')", "1;", "ad0fb60d"},
		{"insert into t values (10, 7, 'yy')", "1;", "ee8f7e0f"},
		{"select b, id from t where a = 7", "'',-1;'yy',10;", "ee8f7e0f"},
		{"insert into t values (2, 0, '')", "!8", "ee8f7e0f"},
		{"update t set a = a + 1 where id > 0", "2;", "7415610f"},
		{"create table u (k int)", "0;", "2d8f77c2"},
		{"insert into u values (5)", "1;", "c471216c"},
		{"insert into u values (4)", "1;", "38b9a38a"},
		{"insert into u values (6)", "1;", "b10d7320"},
		{"select * from u where k >= 5 and k < 6", "5;", "b10d7320"},
		{"select count from t where b = ''", "1;", "b10d7320"},
		{"delete from t where id = 2", "1;", "9cc19926"},
		{"delete from u where k > 4", "2;", "1b541613"},
		{"nonsense", "!3", "1b541613"},
	})
	walk(t, 32, "47dc540c94ceb704a23875c11273e16bb0b8a87aed84de911f2133568115f254", []rooted{
		{"create table t (id int, a int, b text)", "0;", "2b6842d13fff2e40b3afd399fb6517d1abfe18160053a42b459910cc51a68b76"},
	})
}

// P9, P11: while the tree is one leaf, the root is the digest of bytes that can be
// written by hand: numbers at their bounds, texts and names at their longest.
func TestP9OneLeaf(t *testing.T) {
	s := filled(t, "create table abcdefgh (h2345678 int, b text, c int, d text)", "insert into abcdefgh values (-999999999, '', 999999999, 'twelve bytes')",
		"update abcdefgh set c = c + c", "update abcdefgh set c = c + 147483649", "create table u (k int)", "insert into u values (999999999)")
	row := func(place int64, bytes string) string { return string(five(place)) + short(bytes) }
	table := row(at(0, 1), short("abcdefgh")+"\x04\x00"+short("h2345678")+"\x01\x01b\x00\x01c\x01\x01d")
	leaf := func(c int) string {
		return "\x01\x04" + table + row(at(0, 2), "\x01u\x01\x00\x01k") + row(at(1, -999999999), "\x00"+four(c)+short("twelve bytes")) + row(at(2, 999999999), "")
	}
	for i, c := range []int{1<<31 - 1, -1<<31 + 1, -1 << 31} {
		if sum := sha256.Sum256([]byte(leaf(c))); s.Root() != string(sum[:16]) {
			t.Errorf("P9: root %x, want %x: %d", s.Root(), sum[:16], c)
		}
		if i == 0 {
			s.Run("update abcdefgh set c = 0 - c")
		} else {
			s.Run("update abcdefgh set c = c - 1")
		}
	}
}

// P3, P8: what is refused, and what only asks, leaves the root; so does Peek; so
// does an update that puts rows as they were.
func TestP11Unturned(t *testing.T) {
	list := strings.Split(three+"|create table u (k int)|insert into u values (1)|insert into u values (2)", "|")
	s := filled(t, list...)
	root := s.Root()
	for _, sql := range []string{
		"", "x", strings.Repeat(" ", 161), "create table t (id int)", "create table v (id int, id int)", "create table v (a int, b int, c int, d int, e int)", "insert into v values (1)", "insert into t values (1)",
		"insert into t values ('x', 1, 'x')", "insert into t values (2, 1, 'x')", "update t set id = 1", "update t set a = 999999999 + a, b = 'q'", "update t set a = a + 'x'", "update t set b = 'x' where c = 1",
		"delete from v", "delete from t where id = 'x'", "delete from t where id > 100", "update t set a = 0 where id = 3", "update t set a = a", "update t set b = b, a = a + 0 where id > 0",
		"select * from t", "select count from u", "select sum (k) from u", "select * from v",
	} {
		if sql == "update t set a = 999999999 + a, b = 'q'" {
			s.Run("update t set a = 999999999 where id = 10")
			s.Run("update t set a = a + a where id = 10")
			root = s.Root()
		}
		a := s.Run(sql)
		if a.Root != root || s.Root() != root {
			t.Errorf("P3: Run(%q) = %q turned the root", sql, a.Reply)
		}
	}
	for _, sql := range []string{"create table v (id int)", "insert into t values (3, 1, '')", "update t set a = 1", "delete from t", "delete from t where id = 2"} {
		for i := 0; i < 2; i++ {
			if a := s.Peek(sql); a.Root == root || s.Root() != root {
				t.Errorf("P3: Peek(%q) = %q, root %x; the server's %x, want %x", sql, a.Reply, a.Root, s.Root(), root)
			}
		}
	}
}

// P2: a server's root is its own, and two servers that ran the same have the same.
func TestP2Roots(t *testing.T) {
	a, b := fresh(t), fresh(t)
	first := b.Root()
	for _, sql := range strings.Split(three, "|") {
		a.Run(sql)
	}
	if b.Root() != first {
		t.Error("P2: another server's root turned")
	}
	for _, sql := range strings.Split(three, "|") {
		b.Run(sql)
	}
	if a.Root() != b.Root() {
		t.Error("P11: two servers that ran the same have two roots")
	}
}

// P11: a digest has the server's width; it goes into the inner nodes' bytes too.
func TestP11Widths(t *testing.T) {
	for wide := 1; wide <= 32; wide++ {
		s, _ := sqlproof.New(wide)
		w := planted(wide)
		s.Run("create table t (id int)")
		w.put(at(0, 1), "\x01t\x01\x00\x02id")
		for i := 0; i < 50; i++ {
			key := i * 19 % 53
			a := s.Run(fmt.Sprintf("insert into t values (%d)", key))
			w.put(at(1, key), "")
			if a.Root != w.digest() || len(a.Root) != wide {
				t.Fatalf("P11: width %d: root %x, want %x", wide, a.Root, w.digest())
			}
		}
	}
}

// roam runs inserts, updates and deletes of many rows over five tables beside the
// naive tree, up to the bound of 60 rows and tables and down again.
func roam(t *testing.T, seed int64) {
	r := rand.New(rand.NewSource(seed))
	wide := 1 + r.Intn(32)
	s, _ := sqlproof.New(wide)
	w := planted(wide)
	rows := [6]map[int]string{}
	there, made := 0, 0
	for i := 0; i < 400; i++ {
		table, key, text := 1+r.Intn(5), r.Intn(80)-40, fmt.Sprint("v", i)
		name := string(rune('a' + table))
		root, old := s.Root(), w.start()
		w.look(0, tables0)
		var sql, want string
		switch {
		case made < 5 && r.Intn(20) == 0 && there < api.MaxRows:
			made++
			rows[made] = map[int]string{}
			sql, want = fmt.Sprintf("create table %c (id int, v text)", 'a'+made), "0;"
			there++
			w.put(at(0, made), "\x01"+string(rune('a'+made))+"\x02\x00\x02id\x01\x01v")
		case table > made:
			sql, want = "delete from "+name, "!4"
		case r.Intn(12) > 0 && i%200 < 140:
			sql, want = fmt.Sprintf("insert into %s values (%d, '%s')", name, key, text), "1;"
			w.path(at(table, key))
			if _, old := rows[table][key]; old {
				want = "!8"
			} else if there == api.MaxRows {
				want = "!10"
			} else {
				rows[table][key] = text
				there++
				w.put(at(table, key), short(text))
			}
		default:
			updates, count := r.Intn(3) == 0, 0
			reach := r.Intn(8)
			w.look(at(table, key), at(table, key+reach))
			for k := key; k <= key+reach; k++ {
				if _, old := rows[table][k]; !old {
					continue
				}
				count++
				if updates {
					rows[table][k] = text
					w.put(at(table, k), short(text))
				} else {
					delete(rows[table], k)
					there--
					w.cut(at(table, k))
				}
			}
			sql = fmt.Sprintf("delete from %s where id >= %d and id <= %d", name, key, key+reach)
			if updates {
				sql = fmt.Sprintf("update %s set v = '%s' where not (id < %d or %d < id)", name, text, key, key+reach)
			}
			want = fmt.Sprintf("%d;", count)
		}
		peeked, ran := s.Peek(sql), s.Run(sql)
		if ran.Reply != want || ran.Root != w.digest() || peeked != ran || s.Root() != ran.Root {
			t.Fatalf("P10: seed %d: Run(%q) = %q, %x, want %q, %x", seed, sql, ran.Reply, ran.Root, want, w.digest())
		}
		if proof := old.proof(w.touched, wide); ran.Proof != proof {
			t.Fatalf("P13: seed %d: the proof of %q is %x, want %x", seed, sql, ran.Proof, proof)
		}
		if next, ok := sqlproof.Check(wide, root, sql, ran.Reply, ran.Proof); !ok || next != ran.Root {
			t.Fatalf("P15: seed %d: Check of %q = %x, %v, want %x", seed, sql, next, ok, ran.Root)
		}
	}
}

func TestP10AgainstNaiveTree(t *testing.T) {
	for seed := int64(0); seed < 30; seed++ {
		roam(t, seed)
	}
}
