package proofs

import (
	"encoding/binary"
	"math/rand"
	"strings"
	"testing"

	"sqlproof/digest"
	"sqlproof/tree"
)

func five(place int64) string {
	return string(binary.BigEndian.AppendUint64(nil, uint64(place))[3:])
}

func one(n int) string { return string([]byte{byte(n)}) }

// leaf is an open leaf as a proof has it, of rows without bytes.
func leaf(places ...int64) string {
	out := one(1) + one(len(places))
	for _, p := range places {
		out += five(p) + one(0)
	}
	return out
}

// child is what an inner node says of a child, and the child.
func child(least int64, rows int, text string) string {
	return five(least) + one(rows) + text
}

func inner(children ...string) string {
	return one(2) + one(len(children)) + strings.Join(children, "")
}

// shut is a shut node of width 4.
func shut(seal string) string { return one(0) + seal }

func open(places ...int64) string { return child(places[0], len(places), leaf(places...)) }

func TestRead(t *testing.T) {
	two := inner(open(1, 2), open(3, 4))
	for _, c := range []struct {
		what, text string
		want       bool
	}{
		{"nothing", "", false},
		{"an empty leaf", leaf(), true},
		{"a leaf of one", leaf(7), true},
		{"a leaf of four", leaf(0, 1, 2, 1<<40-1), true},
		{"a leaf of five", leaf(1, 2, 3, 4, 5), false},
		{"a shut root", shut("seal"), true},
		{"a shut root with less", shut("sea"), false},
		{"a shut root with more", shut("seals"), false},
		{"a kind", one(3) + one(0), false},
		{"a kind", one(255) + "seal", false},
		{"a kind alone", one(3), false},
		{"a kind alone", one(255), false},
		{"a leaf cut short", leaf(1, 2)[:13], false},
		{"a leaf with more behind it", leaf(1, 2) + one(0), false},
		{"a row", one(1) + one(1) + five(9) + one(255) + strings.Repeat("\xff", 255), true},
		{"a row cut short", one(1) + one(1) + five(9) + one(255) + strings.Repeat("\xff", 254), false},
		{"two leaves", two, true},
		{"two leaves, and more behind them", two + one(0), false},
		{"an inner root of none", inner(), false},
		{"an inner root of one", inner(open(1, 2)), false},
		{"an inner root of four", inner(open(1, 2), open(3, 4), open(5, 6), open(7, 8, 9, 10)), true},
		{"an inner root of five", inner(open(1, 2), open(3, 4), open(5, 6), open(7, 8), open(9, 10)), false},
		{"an inner root of five shut", inner(child(1, 2, shut("seal")), child(2, 2, shut("seal")), child(3, 2, shut("seal")), child(4, 2, shut("seal")), child(5, 2, shut("seal"))), false},
		{"a leaf of one below", inner(open(1, 2), open(3)), false},
		{"a leaf of none below", inner(child(0, 0, leaf()), open(3, 4)), false},
		{"a leaf of five below", inner(open(1, 2), open(3, 4, 5, 6, 7)), false},
		{"an inner node of one below", inner(child(1, 2, inner(open(1, 2))), child(3, 4, inner(open(3, 4), open(5, 6)))), false},
		{"a least place too low", inner(open(1, 2), child(2, 2, leaf(3, 4))), false},
		{"a least place too high", inner(open(1, 2), child(4, 2, leaf(3, 4))), false},
		{"a count too low", inner(open(1, 2), child(3, 1, leaf(3, 4))), false},
		{"a count too high", inner(open(1, 2), child(3, 3, leaf(3, 4))), false},
		{"the first child's least place", inner(child(0, 2, leaf(1, 2)), open(3, 4)), false},
		{"a shut child of no rows", inner(child(0, 0, shut("seal")), child(1, 255, shut("seal"))), true},
		{"shut children that do not rise", inner(child(1, 2, shut("seal")), child(1, 2, shut("seal"))), false},
		{"shut children that fall", inner(child(2, 2, shut("seal")), child(1, 2, shut("seal"))), false},
		{"rows that do not rise", leaf(1, 1), false},
		{"rows that fall", leaf(1, 3, 2), false},
		{"leaves that do not rise", inner(open(1, 3), open(3, 4)), false},
		{"leaves that fall", inner(open(1, 5), open(3, 4)), false},
		{"a leaf above the shut child behind it", inner(open(1, 5), child(5, 2, shut("seal"))), false},
		{"a leaf below the shut child behind it", inner(open(1, 5), child(6, 2, shut("seal"))), true},
		{"a leaf at the shut child ahead of it", inner(child(1, 2, shut("seal")), open(1, 5)), false},
		{"a leaf behind the shut child ahead of it", inner(child(1, 2, shut("seal")), open(2, 5)), true},
		{"two inner nodes", inner(child(1, 4, inner(open(1, 2), open(3, 4))), child(5, 4, inner(open(5, 6), open(7, 8)))), true},
		{"an inner node's least place", inner(child(0, 4, inner(open(1, 2), open(3, 4))), child(5, 4, inner(open(5, 6), open(7, 8)))), false},
		{"an inner node's count", inner(child(1, 4, inner(open(1, 2), open(3, 4))), child(5, 2, inner(open(5, 6), open(7, 8)))), false},
		{"a count of shut rows", inner(child(1, 255, inner(child(1, 250, shut("seal")), child(3, 5, shut("seal")))), child(9, 1, shut("seal"))), true},
		{"a count of shut rows", inner(child(1, 254, inner(child(1, 250, shut("seal")), child(3, 5, shut("seal")))), child(9, 1, shut("seal"))), false},
		{"a count that is above 255", inner(child(1, 0, inner(child(1, 250, shut("seal")), child(3, 6, shut("seal")))), child(9, 1, shut("seal"))), false},
		{"a root's count that is above 255", inner(child(1, 255, shut("seal")), child(3, 255, shut("seal"))), true},
		{"inner nodes do not rise", inner(child(1, 4, inner(open(1, 2), open(3, 9))), child(5, 4, inner(open(5, 6), open(7, 8)))), false},
		{"a leaf beside an inner node", inner(child(1, 4, inner(open(1, 2), open(3, 4))), open(5, 6)), false},
		{"a leaf beside an inner node of shut ones", inner(child(1, 4, inner(child(1, 2, shut("seal")), child(3, 2, shut("seal")))), open(5, 6)), false},
		{"an inner node of shut ones behind a leaf", inner(open(1, 2), child(5, 4, inner(child(5, 2, shut("seal")), child(7, 2, shut("seal"))))), false},
		{"inner nodes of shut ones beside open ones", inner(child(1, 4, inner(child(1, 2, shut("seal")), child(3, 2, shut("seal")))), child(5, 4, inner(open(5, 6), child(8, 2, shut("seal"))))), true},
		{"inner nodes alone, of several depths", inner(child(1, 4, inner(child(1, 2, shut("seal")), child(3, 2, inner(child(3, 1, shut("seal")), child(4, 1, shut("seal")))))), child(5, 4, shut("seal"))), true},
		{"leaves of two depths, far apart", inner(child(1, 4, inner(open(1, 2), open(3, 4))), child(5, 6, inner(child(5, 4, inner(open(5, 6), open(7, 8))), child(9, 2, shut("seal"))))), false},
	} {
		n, ok := Read(c.text, 4)
		if ok != c.want {
			t.Errorf("P14: Read of %s = %v, want %v", c.what, ok, c.want)
		}
		if !ok && (n.Inner || n.Entries != nil || n.Children != nil || n.Rows != 0 || n.Seal != "") {
			t.Errorf("P14: Read of %s gives a tree", c.what)
		}
	}
}

// A proof is one for a width: that of its shut nodes.
func TestReadWidths(t *testing.T) {
	for wide := -2; wide < 36; wide++ {
		for long := 0; long < 36; long++ {
			_, ok := Read(shut(strings.Repeat("x", long)), wide)
			if want := wide == long && wide >= 1 && wide <= 32; ok != want {
				t.Errorf("P14: Read of %d bytes behind the kind, width %d = %v", long, wide, ok)
			}
		}
		if _, ok := Read(leaf(), wide); ok != (wide >= 1 && wide <= 32) {
			t.Errorf("P14: Read of the empty leaf, width %d = %v", wide, ok)
		}
	}
}

// ofRows is a proof whose 48 rows have so many bytes together.
func ofRows(rest int) string {
	text, place := "", int64(1)
	for i := 0; i < 4; i++ {
		leaves, first := "", place
		for j := 0; j < 4; j++ {
			own, at := "", place
			for k := 0; k < 3; k++ {
				long := min(rest, 255)
				rest -= long
				own += five(place) + one(long) + strings.Repeat("r", long)
				place++
			}
			leaves += child(at, 3, one(1)+one(3)+own)
		}
		text += child(first, 12, one(2)+one(4)+leaves)
	}
	return one(2) + one(4) + text
}

// At most 6,000 bytes: and the texts at the bound differ in nothing but that.
func TestReadLength(t *testing.T) {
	for bytes, want := range map[int]bool{5999: true, 6000: true, 6001: false, 6002: false} {
		text := ofRows(bytes - len(ofRows(0)))
		if _, ok := Read(text, 4); len(text) != bytes || ok != want {
			t.Errorf("P14: Read of %d bytes = %v, want %v", len(text), ok, want)
		}
	}
	if _, ok := Read(strings.Repeat("\x02\x02\x00\x00\x00\x00\x00\x00", 1<<20), 1); ok {
		t.Error("P14: eight million bytes are a proof")
	}
}

// P1: texts that nest as deep as they can, and any others, end.
func TestReadEnds(t *testing.T) {
	for _, text := range []string{strings.Repeat("\x02\x02\x00\x00\x00\x00\x00\x00", 750), strings.Repeat("\x02\xff\x00\x00\x00\x00\x00\x00", 750), strings.Repeat("\x02", 6000), strings.Repeat("\x01", 6000), strings.Repeat("\x01\xff", 3000), strings.Repeat("\x00", 6000), strings.Repeat("\x02\x02\x00", 2000)} {
		Read(text, 1)
		Read(text, 32)
	}
	deep := shut("s")
	for i := int64(0); len(deep) <= 6000; i++ {
		if _, ok := Read(deep, 1); !ok {
			t.Fatalf("P14: Read of a tree of depth %d = %v", i, ok)
		}
		deep = inner(child(1, 0, deep), child(9+i, 0, shut("s")))
	}
	r := rand.New(rand.NewSource(5))
	for i := 0; i < 20000; i++ {
		b := make([]byte, r.Intn(60))
		for j := range b {
			b[j] = byte(r.Intn(4))
		}
		Read(string(b), 1+r.Intn(3))
	}
}

// grown is a tree of so many rows.
func grown(r *rand.Rand, rows int) tree.Node {
	var n tree.Node
	for n.Rows < rows {
		n = n.Put(r.Int63n(1<<40), strings.Repeat("r", r.Intn(9)), new(tree.Trail))
	}
	return n
}

// naive is the proof, written by the words of P13.
func naive(n tree.Node, trail *tree.Trail, wide int) string {
	if !trail.Touched(n) {
		return one(0) + digest.Of(n.Bytes(wide), wide)
	}
	if !n.Inner {
		return n.Bytes(wide)
	}
	out := one(2) + one(len(n.Children))
	for _, c := range n.Children {
		out += child(c.Least, c.Rows, naive(c, trail, wide))
	}
	return out
}

// P13: what is written is read again as a tree of the same digest, whose open
// nodes are those that were touched.
func TestWrite(t *testing.T) {
	r := rand.New(rand.NewSource(6))
	for i := 0; i < 2000; i++ {
		old, wide := grown(r, r.Intn(50)).Numbered(), 1+r.Intn(32)
		var trail tree.Trail
		for j := r.Intn(4); j > 0; j-- {
			old.Has(r.Int63n(1<<40), &trail)
		}
		text := Write(old, &trail, wide)
		if text != naive(old, &trail, wide) {
			t.Fatalf("P13: %x", text)
		}
		n, ok := Read(text, wide)
		if !ok || n.Digest(wide) != old.Digest(wide) || !n.IsShut() && n.Rows != old.Rows {
			t.Fatalf("P14: Read(%x) = %v, digest %x, want %x", text, ok, n.Digest(wide), old.Digest(wide))
		}
		all := n.Numbered()
		var again tree.Trail
		touchOpen(all, &again)
		if Write(all, &again, wide) != text {
			t.Fatalf("P13: %x is written in another way", text)
		}
	}
}

// touchOpen goes the way to every row that is told, and to each node that is open.
func touchOpen(n tree.Node, trail *tree.Trail) {
	for _, e := range n.Entries {
		n.Has(e.Place, trail)
	}
	if n.Size() == 0 && !n.IsShut() {
		n.Has(0, trail)
	}
	if n.Inner {
		alone := n
		alone.Children = nil
		alone.Has(0, trail)
	}
	for _, c := range n.Children {
		touchOpen(c, trail)
	}
}

// P16: shut nodes tell nothing; of the others the first whose bytes differ is found.
func TestClash(t *testing.T) {
	told := func(text string) tree.Node {
		n, ok := Read(text, 4)
		if !ok {
			t.Fatalf("P14: %x is no proof", text)
		}
		return n
	}
	own := told(inner(open(1, 2), open(3, 4)))
	first, second := own.Children[0].Digest(4), own.Children[1].Digest(4)
	for _, c := range []struct {
		what, text string
		want       bool
	}{
		{"the tree", inner(open(1, 2), open(3, 4)), false},
		{"a shut root", shut("seal"), false},
		{"shut children", inner(child(1, 2, shut(first)), child(3, 2, shut(second))), false},
		{"one of them open", inner(child(1, 2, shut(first)), open(3, 4)), false},
		{"another seal", inner(child(1, 2, shut(first)), child(3, 2, shut(first))), true},
		{"another place", inner(child(1, 2, shut(first)), child(4, 2, shut(second))), true},
		{"another count", inner(child(1, 2, shut(first)), child(3, 3, shut(second))), true},
		{"another leaf", inner(open(1, 2), open(3, 5)), true},
		{"one child more", inner(open(1, 2), open(3, 4), open(5, 6)), true},
		{"a leaf", leaf(1, 2, 3, 4), true},
		{"an empty leaf", leaf(), true},
	} {
		x, y, ok := Clash(own, told(c.text), 4)
		if ok != c.want || ok && (x != own.Bytes(4) || y != told(c.text).Bytes(4)) || !ok && x+y != "" {
			t.Errorf("P16: Clash with %s = %x, %x, %v", c.what, x, y, ok)
		}
	}
}
