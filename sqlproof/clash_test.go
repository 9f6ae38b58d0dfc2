package sqlproof_test

import (
	"crypto/sha256"
	"encoding/hex"
	"fmt"
	"math/rand"
	"strings"
	"testing"

	"sqlproof/proofs"
	"sqlproof/sqlproof"
	"sqlproof/tree"
)

// wantClash is told nothing for both texts, if there is none to be found.
func wantClash(t *testing.T, s *sqlproof.Server, what string, proof string, own string, other string) {
	t.Helper()
	if x, y, ok := s.Clash(proof); x != own || y != other || ok != (own != other) {
		t.Errorf("P16: Clash of %s = %x, %x, %v, want %x, %x", what, x, y, ok, own, other)
	}
}

// orchard is a server and the naive tree, with a table t (id int, a int) and the rows
// of keys below a number; without a table, if the number is below 0.
func orchard(wide int, rows int) (*sqlproof.Server, *wood) {
	s, _ := sqlproof.New(wide)
	w := planted(wide)
	if rows < 0 {
		return s, w
	}
	s.Run("create table t (id int, a int)")
	w.put(at(0, 1), tableRow("t", "0id", "0a"))
	for i := 0; i < rows; i++ {
		s.Run(fmt.Sprintf("insert into t values (%d, %d)", i, 7*i))
		w.put(at(1, i), four(7*i))
	}
	return s, w
}

// budOf is the naive tree, all open, that a test may turn.
func budOf(k *knot) *bud {
	if len(k.kids) > 0 {
		var kids []*bud
		for _, c := range k.kids {
			kids = append(kids, budOf(c))
		}
		return innerOf(kids...)
	}
	var list []entry
	for i, p := range k.places {
		list = append(list, entry{p, k.rows[i]})
	}
	return leafOf(list...)
}

func shut(b *bud, wide int) *bud {
	return &bud{seal: b.brief(wide), first: b.first, many: b.many}
}

// alike turns a node until it has its old digest again, and other bytes: a leaf's last
// row, or two digests of children of an inner node, which are shut for that.
func alike(t *testing.T, r *rand.Rand, b *bud, wide int) {
	t.Helper()
	bytes, want := b.bytes(wide), b.brief(wide)
	last := len(b.rows) - 1
	for i := 0; i < 1<<22; i++ {
		if b.kids == nil {
			b.rows[last] = b.rows[last][:5] + short(four(r.Intn(1<<31)))
		} else {
			for _, k := range []int{0, len(b.kids) - 1} {
				seal := make([]byte, wide)
				r.Read(seal)
				b.kids[k] = &bud{seal: string(seal), first: b.kids[k].first, many: b.kids[k].many}
			}
		}
		if b.brief(wide) == want && b.bytes(wide) != bytes {
			return
		}
	}
	t.Fatal("no other bytes of the same digest are found")
}

// spot is a node of a tree, and the way to it: of each child its number.
type spot struct {
	way  string
	node *bud
}

// spots are a node and all below it, as P16 comes to them.
func (b *bud) spots(way string) []spot {
	list := []spot{{way, b}}
	for i, k := range b.kids {
		list = append(list, k.spots(way+fmt.Sprint(i))...)
	}
	return list
}

// clash is P16, told of lists: the first open spot of the proof whose bytes are not
// those of the tree's spot of the same way; and how deep it is, or -1.
func clash(w *wood, proof *bud) (string, string, int) {
	own := map[string]string{}
	for _, s := range budOf(w.root).spots("") {
		own[s.way] = s.node.bytes(w.wide)
	}
	for _, s := range proof.spots("") {
		if s.node.seal == "" && s.node.bytes(w.wide) != own[s.way] {
			return own[s.way], s.node.bytes(w.wide), len(s.way)
		}
	}
	return "", "", -1
}

// The document's example: two bytes that differ, and the same digest.
func TestP16Examples(t *testing.T) {
	s, w := orchard(1, 0)
	s.Run("insert into t values (1, 5)")
	w.put(at(1, 1), four(5))
	proof := s.Peek("select * from t").Proof
	own := string(w.root.bytes(1))
	if hex.EncodeToString([]byte(own)) != "010200800000010a0174020002696400016101800000010480000005" {
		t.Fatalf("P11: the leaf is %x", own)
	}
	turned := []byte(proof)
	turned[17] ^= 230
	wantClash(t, s, "the document's proof", string(turned), own, string(turned))
	wantClash(t, s, "the server's own proof", proof, "", "")
	for i := range proof {
		for by := 1; by < 256; by++ {
			b := []byte(proof)
			b[i] ^= byte(by)
			_, same := proofs.Read(string(b), 1)
			sum := sha256.Sum256(b)
			if same && string(sum[:1]) == s.Root() {
				wantClash(t, s, fmt.Sprint("byte ", i, " turned by ", by), string(b), own, string(b))
			} else {
				wantClash(t, s, fmt.Sprint("byte ", i, " turned by ", by), string(b), "", "")
			}
		}
	}
}

// A server's own proofs, and any others of its tree, clash nowhere, whatever is open.
func TestP16Own(t *testing.T) {
	for seed := int64(0); seed < 12; seed++ {
		r := rand.New(rand.NewSource(seed))
		s, w, m := bushy(t, r)
		before, old, root := dump(s), w.start(), s.Root()
		for _, sql := range some(r, m) {
			a := s.Peek(sql)
			wantClash(t, s, "the proof of "+sql, a.Proof, "", "")
			open := map[*knot]bool{}
			for _, k := range old.all() {
				open[k] = r.Intn(6) > 0
			}
			wantClash(t, s, "another proof", old.proof(open, 16), "", "")
		}
		if dump(s) != before || s.Root() != root {
			t.Error("P16: Clash turned the server")
		}
	}
	for wide := 1; wide <= 32; wide++ {
		s, w := orchard(wide, wide)
		wantClash(t, s, "the whole tree", budOf(w.root).proof(), "", "")
	}
}

// What is no proof, or one of another root or width, or tells nothing but the root.
func TestP16Wrong(t *testing.T) {
	s, w := orchard(4, 40)
	whole := budOf(w.root).proof()
	past := s.Peek("select * from t where id = 7").Proof
	long := strings.Repeat("\x02\x02\x00\x00\x00\x00\x00\x00", 1<<18)
	list := []string{"", "\x00", "\x01", "\x02", "\x01\x00", "\x00" + s.Root(), "\x00" + s.Root() + "\x00", s.Root(), "\x00\x00\x00\x00\x00", whole + "\x00", "\x00" + whole, whole + whole, long, strings.Repeat("\x00", 6001), "\x03\x00"}
	for i := range whole {
		list = append(list, whole[:i])
	}
	for _, wide := range []int{1, 3, 5, 32} {
		other, own := orchard(wide, 40)
		list = append(list, "\x00"+other.Root(), other.Peek("select a from t where id = 3").Proof, shut(budOf(own.root), wide).proof())
	}
	for _, proof := range list {
		wantClash(t, s, fmt.Sprintf("%.20q of %d bytes", proof, len(proof)), proof, "", "")
	}
	s.Run("update t set a = 5 where id = 30")
	wantClash(t, s, "a proof of another root", past, "", "")
	wantClash(t, s, "a proof of another root", whole, "", "")
	s.Run("update t set a = 210 where id = 30")
	wantClash(t, s, "a proof of the root, which is again as it was", past, "", "")
}

// matched is the first of the made-up trees that has the digest.
func matched(t *testing.T, wide int, root string, made func(n int) *bud) *bud {
	t.Helper()
	for n := 0; n < 1<<20; n++ {
		if b := made(n); b.brief(wide) == root {
			return b
		}
	}
	t.Fatal("none of the trees has the digest")
	return nil
}

// guess is a shut node; the number tells its digest.
func guess(wide int, n int, first int64, many int) *bud {
	return &bud{seal: string([]byte{byte(n), byte(n >> 8)}[:wide]), first: first, many: many}
}

// A root of another kind or size than the tree's.
func TestP16Shapes(t *testing.T) {
	table, last := entry{at(0, 1), tableRow("t", "0id", "0a")}, entry{at(255, 1<<31-1), "\xff"}
	row := func(n int) entry { return entry{at(1, 1), four(n)} }
	for name, made := range map[string]func(n int) *bud{
		"a leaf of one":         func(n int) *bud { return leafOf(row(n)) },
		"a leaf of four":        func(n int) *bud { return leafOf(table, row(n), entry{at(1, 2), ""}, last) },
		"two shut nodes":        func(n int) *bud { return innerOf(guess(2, n, 5, 0), guess(2, n>>16, 6, 255)) },
		"a leaf and a shut one": func(n int) *bud { return innerOf(leafOf(table, row(n)), guess(2, n, at(1, 9), 1)) },
		"two leaves":            func(n int) *bud { return innerOf(leafOf(table, row(n)), leafOf(entry{at(1, 5), ""}, last)) },
		"deep nodes": func(n int) *bud {
			return innerOf(innerOf(guess(2, 1, 1, 1), guess(2, 2, 2, 1)), guess(2, n, 3, 3), guess(2, n>>16, 4, 4))
		},
	} {
		for _, rows := range []int{-1, 0, 1, 3, 4, 9, 25} {
			s, w := orchard(2, rows)
			b := matched(t, 2, s.Root(), made)
			wantClash(t, s, fmt.Sprint(name, " beside ", rows, " rows"), b.proof(), string(w.root.bytes(2)), b.bytes(2))
		}
	}
	s, _ := orchard(2, -1)
	wantClash(t, s, "an empty leaf, as the tree is", "\x01\x00", "", "")
}

// A leaf of the tree that the proof has as an inner node, with any number of nodes
// below it.
func TestP16Deeper(t *testing.T) {
	for deep := 1; deep < 100; deep += 7 {
		s, w := orchard(1, 9)
		b := budOf(w.root)
		for i := range b.kids {
			b.kids[i] = shut(b.kids[i], 1)
		}
		last := len(b.kids) - 1
		leaf := b.kids[last]
		b.kids[last] = matched(t, 1, leaf.seal, func(n int) *bud {
			below := guess(1, 0, leaf.first, leaf.many)
			for i := 1; i < deep; i++ {
				below = innerOf(below, guess(1, 0, leaf.first+int64(i), 0))
			}
			return innerOf(below, guess(1, n, leaf.first+int64(deep), 0), guess(1, n>>8, leaf.first+int64(deep)+1, 0))
		})
		wantClash(t, s, fmt.Sprint("a tree of depth ", deep), b.proof(), string(w.root.kids[last].bytes(1)), b.kids[last].bytes(1))
	}
}

// A proof of 6,000 bytes is looked at, one of 6,001 is none.
func TestP16Long(t *testing.T) {
	for long, want := range map[int]bool{5999: true, 6000: true, 6001: false, 6100: false} {
		s, w := orchard(1, 9)
		b := matched(t, 1, s.Root(), func(n int) *bud { return stretched(long, n) })
		if len(b.proof()) != long {
			t.Fatalf("a proof of %d bytes", len(b.proof()))
		}
		if want {
			wantClash(t, s, fmt.Sprint(long, " bytes"), b.proof(), string(w.root.bytes(1)), b.bytes(1))
		} else {
			wantClash(t, s, fmt.Sprint(long, " bytes"), b.proof(), "", "")
		}
	}
}

// stretched is a tree of 48 rows whose proof has so many bytes.
func stretched(long int, n int) *bud {
	rest, key := 0, 0
	var made func(deep int) *bud
	made = func(deep int) *bud {
		var list []entry
		for i := 0; i < 3 && deep == 2; i++ {
			many := min(rest, 250)
			rest -= many
			key++
			list = append(list, entry{at(1, key), four(n)[1:] + strings.Repeat("r", many)})
		}
		if deep == 2 {
			return leafOf(list...)
		}
		return innerOf(made(deep+1), made(deep+1), made(deep+1), made(deep+1))
	}
	bare := len(made(0).proof())
	rest, key = long-bare, 0
	return made(0)
}

// turnSome turns some nodes so that they keep their digests, and shuts some.
func turnSome(t *testing.T, r *rand.Rand, b *bud, odds int, wide int) {
	for i, k := range b.kids {
		turnSome(t, r, k, odds, wide)
		if r.Intn(odds) == 0 {
			b.kids[i] = shut(k, wide)
		}
	}
	if r.Intn(odds) == 0 {
		alike(t, r, b, wide)
	}
}

// Nodes of the same digest and other bytes, anywhere: the first that is open is found,
// from the left to the right, each with all below it.
func TestP16First(t *testing.T) {
	r := rand.New(rand.NewSource(16))
	depths := map[int]int{}
	for i := 0; i < 600; i++ {
		s, w := orchard(1, r.Intn(60))
		proof := budOf(w.root)
		turnSome(t, r, proof, 2+r.Intn(14), 1)
		own, other, depth := clash(w, proof)
		depths[depth]++
		wantClash(t, s, fmt.Sprint("proof ", i, " of nodes of the same digests"), proof.proof(), own, other)
	}
	for depth := -1; depth <= 3; depth++ {
		if depths[depth] < 20 {
			t.Errorf("%d of the clashes are at depth %d", depths[depth], depth)
		}
	}
}

// The same by hand: what lies to the right, above or below is not what is found.
func TestP16Order(t *testing.T) {
	r := rand.New(rand.NewSource(7))
	for _, c := range []struct {
		turned, shut []string // ways
		want         string   // the way to the clash
	}{
		{[]string{"01"}, nil, "01"},
		{[]string{"00", "01"}, nil, "00"},
		{[]string{"01", "10"}, nil, "01"},
		{[]string{"01", "1"}, nil, "01"},
		{[]string{"1", "10", "2"}, nil, "1"},
		{[]string{"", "00", "1"}, nil, ""},
		{[]string{"00", "01"}, []string{"00"}, "01"},
		{[]string{"00", "21"}, []string{"0", "1"}, "21"},
		{[]string{"00", "0", "2"}, []string{"0"}, "2"},
		{[]string{"20"}, []string{"20"}, "none"},
		{[]string{"2"}, []string{"2"}, "none"},
		{nil, []string{"0", "1", "2"}, "none"},
		{nil, nil, "none"},
	} {
		for _, wide := range []int{1, 2} {
			s, w := orchard(wide, 28)
			nodes, own := map[string]*bud{}, map[string]string{"none": ""}
			proof := budOf(w.root)
			for _, p := range proof.spots("") {
				nodes[p.way], own[p.way] = p.node, p.node.bytes(wide)
			}
			for i := len(c.turned) - 1; i >= 0; i-- {
				alike(t, r, nodes[c.turned[i]], wide)
			}
			for _, way := range c.shut {
				*nodes[way] = *shut(nodes[way], wide)
			}
			other := ""
			if c.want != "none" {
				other = nodes[c.want].bytes(wide)
			}
			wantClash(t, s, fmt.Sprint(c.turned, " turned, ", c.shut, " shut"), proof.proof(), own[c.want], other)
		}
	}
}

// budFrom is a tree that was read.
func budFrom(n tree.Node) *bud {
	if n.IsShut() {
		return &bud{seal: n.Seal, first: n.Least, many: n.Rows}
	}
	if n.Inner {
		var kids []*bud
		for _, c := range n.Children {
			kids = append(kids, budFrom(c))
		}
		return innerOf(kids...)
	}
	var list []entry
	for _, e := range n.Entries {
		list = append(list, entry{e.Place, e.Row})
	}
	return leafOf(list...)
}

// Any bytes turned: what is found has one digest, and is what the lists tell.
func TestP16Turned(t *testing.T) {
	r := rand.New(rand.NewSource(3))
	found := 0
	for seed := 0; seed < 12; seed++ {
		s, w := orchard(1, 5*seed)
		before := dump(s)
		for i := 0; i < 3000; i++ {
			b := []byte(s.Peek(fmt.Sprintf("select a from t where id = %d or id > %d", r.Intn(60), r.Intn(80))).Proof)
			for k := 1 + r.Intn(2); k > 0; k-- {
				b[r.Intn(len(b))] ^= byte(1 + r.Intn(255))
			}
			own, other := "", ""
			if told, ok := proofs.Read(string(b), 1); ok && budFrom(told).brief(1) == s.Root() {
				own, other, _ = clash(w, budFrom(told))
			}
			wantClash(t, s, fmt.Sprintf("%x", b), string(b), own, other)
			if own != other {
				found++
				x, y := sha256.Sum256([]byte(own)), sha256.Sum256([]byte(other))
				if x[0] != y[0] {
					t.Errorf("P16: %x and %x have not one digest", own, other)
				}
			}
		}
		if dump(s) != before {
			t.Error("P16: Clash turned the server")
		}
	}
	if found < 50 {
		t.Errorf("%d clashes are found", found)
	}
}
