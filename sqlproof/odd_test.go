package sqlproof_test

import (
	"crypto/sha256"
	"fmt"
	"strings"
	"testing"

	"sqlproof/api"
	"sqlproof/sqlproof"
)

const oddWide = 8

// bud is a node of a tree that a test makes up, as no server would: a leaf, an
// inner node, or one that is shut.
type bud struct {
	rows  []string // places and rows of a leaf, as bytes
	kids  []*bud
	seal  string // of a shut one
	first int64
	many  int
}

// entry is a row of a leaf, and its place.
type entry struct {
	place int64
	row   string
}

func leafOf(list ...entry) *bud {
	b := &bud{many: len(list)}
	for i, e := range list {
		if i == 0 {
			b.first = e.place
		}
		b.rows = append(b.rows, string(five(e.place))+short(e.row))
	}
	return b
}

func innerOf(kids ...*bud) *bud {
	b := &bud{kids: kids, first: kids[0].first}
	for _, k := range kids {
		b.many += k.many
	}
	return b
}

// sealed is shut; what is in it nobody knows.
func sealed(first int64, many int) *bud {
	return &bud{seal: fmt.Sprintf("%08d", first%1e8), first: first, many: many}
}

func (b *bud) text(below func(*bud) string) string {
	if b.kids == nil {
		return string([]byte{1, byte(len(b.rows))}) + strings.Join(b.rows, "")
	}
	out := string([]byte{2, byte(len(b.kids))})
	for _, k := range b.kids {
		out += string(five(k.first)) + string([]byte{byte(k.many)}) + below(k)
	}
	return out
}

func (b *bud) digest() string { return b.brief(oddWide) }

// brief is the digest, of any width.
func (b *bud) brief(wide int) string {
	if b.seal != "" {
		return b.seal
	}
	sum := sha256.Sum256([]byte(b.bytes(wide)))
	return string(sum[:wide])
}

func (b *bud) bytes(wide int) string {
	return b.text(func(k *bud) string { return k.brief(wide) })
}

func (b *bud) proof() string {
	if b.seal != "" {
		return "\x00" + b.seal
	}
	return b.text((*bud).proof)
}

// tableRow describes a table; of each column the kind, 0 or 1, and the name.
func tableRow(name string, columns ...string) string {
	out := short(name) + string([]byte{byte(len(columns))})
	for _, c := range columns {
		out += string([]byte{c[0] - '0'}) + short(c[1:])
	}
	return out
}

// accept is told the tree that the statement leaves.
func accept(t *testing.T, b *bud, sql string, reply string, next *bud) {
	t.Helper()
	if root, ok := sqlproof.Check(oddWide, b.digest(), sql, reply, b.proof()); !ok || root != next.digest() {
		t.Errorf("P15: Check of %q, %q = %x, %v, want %x, true", sql, reply, root, ok, next.digest())
	}
}

func refuse(t *testing.T, b *bud, sql string, reply string) {
	t.Helper()
	if root, ok := sqlproof.Check(oddWide, b.digest(), sql, reply, b.proof()); ok || root != "" {
		t.Errorf("P15: Check of %q, %q = %x, %v", sql, reply, root, ok)
	}
}

// Of two tables of one name the first is meant.
func TestP15TwoTables(t *testing.T) {
	first, second := entry{at(0, 2), tableRow("t", "0id", "0a")}, entry{at(0, 4), tableRow("t", "0k", "1b")}
	one, other := entry{at(2, 5), four(7)}, entry{at(4, 6), short("x")}
	b := leafOf(first, second, one, other)
	accept(t, b, "select * from t", "5,7;", b)
	accept(t, b, "select b from t", "!4", b)
	accept(t, b, "select a from t where k = 6", "!4", b)
	accept(t, b, "insert into t values (6, 'x')", "!7", b)
	accept(t, b, "insert into t values (5, 1)", "!8", b)
	accept(t, b, "create table t (id int)", "!5", b)
	accept(t, b, "update t set a = a - 8", "1;", leafOf(first, second, entry{at(2, 5), four(-1)}, other))
	accept(t, b, "delete from t", "1;", leafOf(first, second, other))
	accept(t, b, "insert into t values (6, 1)", "1;", innerOf(leafOf(first, second, one), leafOf(entry{at(2, 6), four(1)}, other)))
	refuse(t, b, "select * from t", "6,'x';")
	refuse(t, b, "select b from t", "'x';")
}

// Of two columns of one name the first is meant; but * is all columns.
func TestP15TwoColumns(t *testing.T) {
	table := entry{at(0, 1), tableRow("t", "0id", "0a", "0a", "0id")}
	row := func(key int, a int, b int, c int) entry { return entry{at(1, key), four(a) + four(b) + four(c)} }
	b := leafOf(table, row(1, 10, 20, 30), row(2, 20, 10, 1))
	accept(t, b, "select * from t", "1,10,20,30;2,20,10,1;", b)
	accept(t, b, "select a, id, a from t", "10,1,10;20,2,20;", b)
	accept(t, b, "select sum (a) from t", "30;", b)
	accept(t, b, "select sum (id) from t", "3;", b)
	accept(t, b, "select * from t where a = 20", "2,20,10,1;", b)
	accept(t, b, "select * from t where id = 1", "1,10,20,30;", b)
	accept(t, b, "update t set id = 1", "!8", b)
	accept(t, b, "update t set a = 1, a = 2", "!5", b)
	accept(t, b, "update t set a = a + id where id < 2", "1;", leafOf(table, row(1, 11, 20, 30), row(2, 20, 10, 1)))
	accept(t, b, "delete from t where a < 20", "1;", leafOf(table, row(2, 20, 10, 1)))
	accept(t, b, "insert into t values (3, 1, 2)", "!6", b)
	accept(t, b, "insert into t values (3, 1, 2, 3)", "1;", leafOf(table, row(1, 10, 20, 30), row(2, 20, 10, 1), row(3, 1, 2, 3)))
	kinds := entry{at(0, 1), tableRow("t", "0id", "1a", "0a")}
	b = leafOf(kinds, entry{at(1, 1), short("x") + four(5)})
	accept(t, b, "select * from t where a = 'x'", "1,'x',5;", b)
	accept(t, b, "select * from t where a = 5", "!7", b)
	accept(t, b, "update t set a = 5", "!7", b)
	accept(t, b, "insert into t values (2, 'y', 6)", "1;", leafOf(kinds, entry{at(1, 1), short("x") + four(5)}, entry{at(1, 2), short("y") + four(6)}))
}

// The number for a new table is one above the greatest.
func TestP15NewTable(t *testing.T) {
	row := func(name string) string { return tableRow(name, "0k") }
	v := row("v")
	for _, c := range []struct {
		keys []int
		next int
	}{{nil, 1}, {[]int{1}, 2}, {[]int{3}, 4}, {[]int{1, 4}, 5}, {[]int{5}, 6}, {[]int{2, 3, 5}, 6}} {
		var list []entry
		for i, k := range c.keys {
			list = append(list, entry{at(0, k), row(fmt.Sprint("t", i))})
		}
		accept(t, leafOf(list...), "create table v (k int)", "0;", leafOf(append(list, entry{at(0, c.next), v})...))
	}
	// behind four tables there is room for one, behind five there is none
	four := []entry{{at(0, 1), row("a")}, {at(0, 2), row("b")}, {at(0, 3), row("c")}, {at(0, 5), row("d")}}
	accept(t, leafOf(four...), "create table v (k int)", "0;", innerOf(leafOf(four[:3]...), leafOf(four[3], entry{at(0, 6), v})))
	five := innerOf(leafOf(four[:3]...), leafOf(entry{at(0, 4), row("e")}, four[3]))
	accept(t, five, "create table v (k int)", "!10", five)
	accept(t, five, "insert into d values (1)", "1;", innerOf(five.kids[0], leafOf(entry{at(0, 4), row("e")}, four[3], entry{at(5, 1), ""})))
}

// Each row of table 0 that an open node tells is written as P9 has it.
func TestP15BadTables(t *testing.T) {
	good := entry{at(0, 1), tableRow("t", "0id")}
	for _, c := range []struct {
		e    entry
		want bool
	}{
		{entry{at(0, 2), tableRow("u", "0k")}, true},
		{entry{at(0, 2), tableRow("abcdefgh", "0abcdefgh", "1abcdefgh", "0abcdefgh", "1abcdefgh")}, true},
		{entry{at(0, 5), tableRow("'\x00\xff", "0 ", "1;")}, true},
		{entry{at(0, 5), tableRow("select", "0from")}, true},
		{entry{at(0, 6), tableRow("u", "0k")}, false},
		{entry{at(0, 1<<31-1), tableRow("u", "0k")}, false},
		{entry{at(0, 2), tableRow("", "0k")}, false},
		{entry{at(0, 2), tableRow("abcdefghi", "0k")}, false},
		{entry{at(0, 2), tableRow("u")}, false},
		{entry{at(0, 2), tableRow("u", "0k", "0a", "0b", "0c", "0d")}, false},
		{entry{at(0, 2), tableRow("u", "1k")}, false},
		{entry{at(0, 2), tableRow("u", "2k")}, false},
		{entry{at(0, 2), tableRow("u", "0k", "2a")}, false},
		{entry{at(0, 2), tableRow("u", "0")}, false},
		{entry{at(0, 2), tableRow("u", "0k", "1")}, false},
		{entry{at(0, 2), tableRow("u", "0abcdefghi")}, false},
		{entry{at(0, 2), tableRow("u", "0k") + "\x00"}, false},
		{entry{at(0, 2), tableRow("u", "0k")[:5]}, false},
		{entry{at(0, 2), ""}, false},
		{entry{at(0, 2), "\x01"}, false},
		{entry{at(0, 2), "\xff"}, false},
		{entry{at(6, 1), ""}, true},
		{entry{at(255, 1<<31-1), "\xff"}, true},
		{entry{at(1, -1<<31), ""}, true},
	} {
		b := leafOf(good, c.e)
		next := leafOf(good, entry{at(1, 1), ""}, c.e)
		if c.e.place < at(1, 1) {
			next = leafOf(good, c.e, entry{at(1, 1), ""})
		}
		try := func(sql string, reply string, next *bud) {
			if c.want {
				accept(t, b, sql, reply, next)
			} else {
				refuse(t, b, sql, reply)
			}
		}
		try("select * from t where id = 1", "", b)
		try("select x from t", "!4", b)
		try("create table t (id int)", "!5", b)
		try("insert into t values (1)", "1;", next)
		try("update t set id = 1", "!8", b)
		// a statement that is none is so with any proof of that root
		accept(t, b, "x", "!3", b)
		accept(t, b, strings.Repeat("x", 161), "!2", b)
	}
	for _, key := range []int{0, -1, -1 << 31} {
		b := leafOf(entry{at(0, key), tableRow("u", "0k")}, good)
		refuse(t, b, "select * from t", "")
		accept(t, b, "x", "!3", b)
	}
}

// Rows of the table whose keys lie in the span are written as P9 has it; others of
// the same leaf, and all where no row is looked at, may be any bytes.
func TestP15BadRows(t *testing.T) {
	table := entry{at(0, 1), tableRow("t", "0id", "0a", "1b")}
	row := func(key int, a int, b string) entry { return entry{at(1, key), four(a) + short(b)} }
	for _, bad := range []string{"", "\x00", four(1), four(1) + "\x01", four(1) + "\x0dthirteen byte", four(1) + short("x") + "\x00", four(1)[:3], four(1) + "\xff"} {
		b := leafOf(table, row(2, 7, "x"), entry{at(1, 3), bad}, entry{at(2, 1), bad})
		for _, c := range []struct {
			sql, reply string
			ok         bool
		}{
			{"select * from t", "2,7,'x';", false},
			{"select * from t where id = 2", "2,7,'x';", true},
			{"select * from t where id < 3", "2,7,'x';", true},
			{"select * from t where id <= 3", "2,7,'x';", false},
			{"select * from t where id > 3", "", true},
			{"select count from t where id >= 3", "1;", false},
			{"select count from t where id >= 3", "0;", false},
			{"select count from t where id = 2 or id = 4", "1;", false},
			{"select count from t where id = 3 and id = 4", "0;", true},
			{"select count from t where a = 7", "1;", false},
			{"update t set a = 7 where id = 2", "1;", true},
			{"update t set a = a + a where id >= 2", "1;", false},
			{"update t set a = 1 where a = 100", "0;", false},
			{"delete from t where a = 100 and id <> 3", "0;", false},
			{"delete from t where id = 3", "1;", false},
			{"insert into t values (3, 1, '')", "!8", true},
			{"insert into t values (3, 1)", "!6", true},
			{"select x from t", "!4", true},
			{"select * from t where b = 1", "!7", true},
		} {
			if c.ok {
				accept(t, b, c.sql, c.reply, b)
			} else {
				refuse(t, b, c.sql, c.reply)
			}
		}
		accept(t, b, "delete from t where id < 3", "1;", leafOf(table, entry{at(1, 3), bad}, entry{at(2, 1), bad}))
		accept(t, b, "insert into t values (4, 1, '')", "1;", innerOf(leafOf(table, row(2, 7, "x"), entry{at(1, 3), bad}), leafOf(row(4, 1, ""), entry{at(2, 1), bad})))
	}
	// texts of any bytes, numbers at their bounds
	odd := leafOf(table, row(2, -1<<31, "'\x00\xff\n;',12345"[:12]), row(3, 1<<31-1, "' "))
	accept(t, odd, "select b, a from t", "'"+"'\x00\xff\n;',12345"[:12]+"',-2147483648;'' ',2147483647;", odd)
	accept(t, odd, "select count from t where b > '~~~~~~~~~~~~'", "0;", odd)
	accept(t, odd, "update t set a = a + 1", "!9", odd)
	accept(t, odd, "update t set a = a - 1", "!9", odd)
	accept(t, odd, "update t set a = a - 1 where id = 3", "1;", leafOf(table, row(2, -1<<31, "'\x00\xff\n;',12345"[:12]), row(3, 1<<31-2, "' ")))
}

// ErrFull goes by the counts of the root, also of what is shut, and above 255.
func TestP15Full(t *testing.T) {
	tables := leafOf(entry{at(0, 1), tableRow("t", "0id")}, entry{at(1, 1), ""})
	more := leafOf(entry{at(0, 1), tableRow("t", "0id")}, entry{at(1, 1), ""}, entry{at(1, 5), ""})
	made := leafOf(entry{at(0, 1), tableRow("t", "0id")}, entry{at(0, 2), tableRow("u", "0k")}, entry{at(1, 1), ""})
	for counts, full := range map[[2]int]bool{{1, 1}: false, {0, 0}: false, {50, 7}: false, {50, 8}: true, {200, 200}: true, {255, 255}: true, {254, 0}: true, {0, 255}: true} {
		rest := []*bud{sealed(at(1, 10), counts[0]), sealed(at(1, 20), counts[1])}
		b := innerOf(append([]*bud{tables}, rest...)...)
		if full {
			accept(t, b, "insert into t values (5)", "!10", b)
			accept(t, b, "insert into t values (1)", "!8", b)
			accept(t, b, "create table u (k int)", "!10", b)
			refuse(t, b, "insert into t values (5)", "1;")
			continue
		}
		accept(t, b, "insert into t values (5)", "1;", innerOf(append([]*bud{more}, rest...)...))
		accept(t, b, "create table u (k int)", "0;", innerOf(append([]*bud{made}, rest...)...))
		refuse(t, b, "insert into t values (5)", "!10")
	}
}

// A count of rows that is above 255 is written modulo 256.
func TestP15Modulo(t *testing.T) {
	row := func(key int) entry { return entry{at(1, key), ""} }
	table := entry{at(0, 1), tableRow("t", "0id")}
	for _, many := range []int{249, 250, 251, 252} {
		small := innerOf(leafOf(table, row(1)), leafOf(row(2), row(3)))
		great := innerOf(sealed(at(1, 10), many), sealed(at(1, 500), 3))
		last := sealed(at(1, 1000), 255)
		b := innerOf(small, great, last)
		joined := innerOf(leafOf(table, row(1), row(3)), great.kids[0], great.kids[1])
		accept(t, b, "delete from t where id = 2", "1;", innerOf(joined, last))
		refuse(t, b, "delete from t where id = 2", "0;")
	}
}

// A tree without a row of table 0: only the root is touched, and by a create the way
// to the first place.
func TestP15NoTables(t *testing.T) {
	shut := innerOf(sealed(at(1, 5), 2), sealed(at(1, 9), 2))
	accept(t, shut, "select * from t", "!4", shut)
	accept(t, shut, "insert into t values (1)", "!4", shut)
	accept(t, shut, "create table t (a int, a int)", "!5", shut)
	refuse(t, shut, "create table t (a int)", "0;")
	low := innerOf(sealed(at(1, -1<<31)-1, 2), sealed(at(1, 9), 2))
	refuse(t, low, "select * from t", "!4")
	first := leafOf(entry{at(1, 5), ""}, entry{at(1, 6), "any"})
	b := innerOf(first, sealed(at(1, 9), 2))
	accept(t, b, "create table t (a int)", "0;", innerOf(leafOf(entry{at(0, 1), tableRow("t", "0a")}, entry{at(1, 5), ""}, entry{at(1, 6), "any"}), b.kids[1]))
	root := sealed(0, 0)
	refuse(t, root, "select * from t", "!4")
	accept(t, root, "select * from", "!3", root)
	accept(t, root, strings.Repeat("0", api.MaxSQL+1), "!2", root)
	refuse(t, root, strings.Repeat("0", api.MaxSQL), "!2")
}

// With digests of one byte a column's name can be turned so that nobody sees it.
func TestP15OneByte(t *testing.T) {
	s, _ := sqlproof.New(1)
	s.Run("create table t (id int, a int)")
	s.Run("insert into t values (1, 5)")
	root, a := s.Root(), s.Peek("select * from t")
	accepted := 0
	for i := 0; i < 1<<8; i++ {
		turned := []byte(a.Proof)
		turned[17] ^= byte(i)
		next, ok := sqlproof.Check(1, root, "select * from t", "1,5;", string(turned))
		if ok && next == root {
			accepted++
		}
		if (i == 0 || i == 230) && !ok {
			t.Errorf("P15: the proof with its byte 17 turned by %d is not accepted", i)
		}
	}
	if accepted > 10 {
		t.Errorf("P15: %d turned proofs are accepted", accepted)
	}
}
