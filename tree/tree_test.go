package tree

import (
	"crypto/sha256"
	"encoding/hex"
	"fmt"
	"math/rand"
	"reflect"
	"sort"
	"strconv"
	"strings"
	"testing"
)

// shape tells a tree by its places: ((1 2)(3 4 5)) is a root with two leaves.
func shape(n Node) string {
	out := ""
	for _, e := range n.Entries {
		out += " " + strconv.FormatInt(e.Place, 10)
	}
	for _, c := range n.Children {
		out += shape(c)
	}
	return "(" + strings.TrimSpace(out) + ")"
}

// grown is the tree that a shape tells; the row at a place is the place, written.
func grown(text string) Node {
	n, rest := grow(text)
	if rest != "" {
		panic("behind the shape: " + rest)
	}
	return n
}

func grow(text string) (Node, string) {
	text = text[1:]
	var children []Node
	var entries []Entry
	for text[0] != ')' {
		if text[0] == '(' {
			var c Node
			c, text = grow(text)
			children = append(children, c)
			continue
		}
		word := text[:strings.IndexAny(text, " )")]
		place, _ := strconv.ParseInt(word, 10, 64)
		entries = append(entries, Entry{place, word})
		text = strings.TrimPrefix(text[len(word):], " ")
	}
	if children != nil {
		return Inner(children), text[1:]
	}
	return Leaf(entries), text[1:]
}

func TestPut(t *testing.T) {
	for _, c := range []struct {
		before string
		place  int64
		want   string
	}{
		{"()", 5, "(5)"},
		{"(5)", 3, "(3 5)"},
		{"(3 5)", 4, "(3 4 5)"},
		{"(3 4 5)", 9, "(3 4 5 9)"},
		{"(3 4 5 9)", 5, "(3 4 5 9)"},
		{"(3 4 5 9)", 10, "((3 4 5)(9 10))"},
		{"(3 4 5 9)", 1, "((1 3 4)(5 9))"},
		{"(3 4 5 9)", 8, "((3 4 5)(8 9))"},
		{"((3 4)(7 8))", 1, "((1 3 4)(7 8))"},
		{"((3 4)(7 8))", 5, "((3 4 5)(7 8))"},
		{"((3 4)(7 8))", 6, "((3 4 6)(7 8))"},
		{"((3 4)(7 8))", 7, "((3 4)(7 8))"},
		{"((3 4)(7 8))", 9, "((3 4)(7 8 9))"},
		{"((1 2 3 4)(7 8))", 6, "((1 2 3)(4 6)(7 8))"},
		{"((1 2)(3 4)(5 6 7 8)(11 12))", 10, "(((1 2)(3 4)(5 6 7))((8 10)(11 12)))"},
		{"((1 2)(3 4)(5 6)(7 8 9 10))", 11, "(((1 2)(3 4)(5 6))((7 8 9)(10 11)))"},
		{"((2 3 4 5)(6 7)(8 9)(10 11))", 1, "(((1 2 3)(4 5)(6 7))((8 9)(10 11)))"},
		{"(((1 2)(3 4))((5 6)(7 8)))", 0, "(((0 1 2)(3 4))((5 6)(7 8)))"},
		{"(((1 2)(3 4))((5 6)(7 8)(9 10)(11 12 13 14)))", 15, "(((1 2)(3 4))((5 6)(7 8)(9 10))((11 12 13)(14 15)))"},
	} {
		before := grown(c.before)
		got := before.Put(c.place, strconv.FormatInt(c.place, 10), new(Trail))
		if shape(got) != c.want || !reflect.DeepEqual(got, grown(c.want)) {
			t.Errorf("P10: %s with %d is %s, want %s", c.before, c.place, shape(got), c.want)
		}
		if !reflect.DeepEqual(before, grown(c.before)) {
			t.Errorf("P3: %s has become %s", c.before, shape(before))
		}
	}
}

// A row that is put at the place of another goes in its stead.
func TestPutInstead(t *testing.T) {
	n := grown("((1 2)(3 4 5)(6 7))")
	for _, place := range []int64{1, 3, 4, 7} {
		n = n.Put(place, "new", new(Trail))
	}
	got := ""
	for _, e := range n.Through(0, 9, new(Trail)) {
		got += " " + e.Row
	}
	if want := " new 2 new new 5 6 new"; got != want || shape(n) != "((1 2)(3 4 5)(6 7))" {
		t.Errorf("P10: rows%s in %s, want%s", got, shape(n), want)
	}
}

func TestDelete(t *testing.T) {
	for _, c := range []struct {
		before string
		place  int64
		want   string
	}{
		{"(1)", 1, "()"},
		{"(1 2)", 1, "(2)"},
		{"(1 2 3)", 2, "(1 3)"},
		{"()", 2, "()"},
		{"(1 3)", 2, "(1 3)"},
		{"((1 2 3)(4 5 6))", 1, "((2 3)(4 5 6))"},
		{"((1 2 3)(4 5 6))", 4, "((1 2 3)(5 6))"},
		// a neighbour to the right, of two, three, four
		{"((1 2)(3 4))", 1, "(2 3 4)"},
		{"((1 2)(3 4))", 2, "(1 3 4)"},
		{"((1 2)(3 4 5))", 1, "(2 3 4 5)"},
		{"((1 2)(3 4 5 6))", 1, "((2 3 4)(5 6))"},
		{"((1 2)(3 4 5 6))", 2, "((1 3 4)(5 6))"},
		{"((1 2 3 4)(5 6)(7 8))", 5, "((1 2 3 4)(6 7 8))"},
		{"((1 2)(3 4)(5 6 7))", 4, "((1 2)(3 5 6 7))"},
		{"((1 2)(3 4)(5 6 7 8)(9 10))", 4, "((1 2)(3 5 6)(7 8)(9 10))"},
		// the last child: a neighbour to the left, of two, three, four
		{"((1 2)(3 4))", 3, "(1 2 4)"},
		{"((1 2 3)(4 5))", 5, "(1 2 3 4)"},
		{"((1 2 3 4)(5 6))", 6, "((1 2 3)(4 5))"},
		{"((1 2 3 4)(5 6))", 5, "((1 2 3)(4 6))"},
		{"((1 2)(3 4 5 6)(7 8))", 7, "((1 2)(3 4 5)(6 8))"},
		// inner nodes are joined as leaves are
		{"(((1 2)(3 4))((5 6)(7 8)))", 1, "((2 3 4)(5 6)(7 8))"},
		{"(((1 2)(3 4))((5 6)(7 8)(9 10)))", 4, "((1 2 3)(5 6)(7 8)(9 10))"},
		{"(((1 2)(3 4))((5 6)(7 8)(9 10)(11 12)))", 2, "(((1 3 4)(5 6)(7 8))((9 10)(11 12)))"},
		{"(((1 2)(3 4)(5 6)(7 8))((9 10)(11 12)))", 12, "(((1 2)(3 4)(5 6))((7 8)(9 10 11)))"},
		{"(((1 2)(3 4))((5 6)(7 8)))", 8, "((1 2)(3 4)(5 6 7))"},
		{"(((1 2)(3 4))((5 6)(7 8))((9 10)(11 12)))", 6, "(((1 2)(3 4))((5 7 8)(9 10)(11 12)))"},
		{"(((1 2)(3 4)(5 6))((7 8)(9 10)))", 3, "(((1 2)(4 5 6))((7 8)(9 10)))"},
	} {
		before := grown(c.before)
		if got := before.Delete(c.place, new(Trail)); shape(got) != c.want || !reflect.DeepEqual(got, grown(c.want)) {
			t.Errorf("P10: %s without %d is %s, want %s", c.before, c.place, shape(got), c.want)
		}
		if !reflect.DeepEqual(before, grown(c.before)) {
			t.Errorf("P3: %s has become %s", c.before, shape(before))
		}
	}
}

func TestThrough(t *testing.T) {
	n := grown("(((10 20)(30 40 50))((60 70)(80 90)(100 110 120)))")
	for lo := int64(0); lo <= 130; lo += 5 {
		for hi := int64(0); hi <= 130; hi += 5 {
			got, want := "", ""
			for _, e := range n.Through(lo, hi, new(Trail)) {
				got += fmt.Sprint(" ", e.Place, "=", e.Row)
			}
			for p := int64(10); p <= 120; p += 10 {
				if lo <= p && p <= hi {
					want += fmt.Sprint(" ", p, "=", p)
				}
			}
			if got != want {
				t.Errorf("from %d to %d:%s, want%s", lo, hi, got, want)
			}
		}
		if got := n.Has(lo, new(Trail)); got != (lo%10 == 0 && lo >= 10 && lo <= 120) {
			t.Errorf("Has(%d) = %v", lo, got)
		}
	}
}

func TestLeast(t *testing.T) {
	for text, want := range map[string]int64{"()": 0, "(7)": 7, "(7 8)": 7, "((7 8)(9 10))": 7, "((7))": 7} {
		if n := grown(text); n.Least != want {
			t.Errorf("P10: the least place of %s is %d", text, n.Least)
		}
	}
}

// sound tells what is wrong with a tree, and how deep it is.
func sound(n Node, root bool) (string, int) {
	if !n.Inner {
		if len(n.Entries) > 4 || len(n.Entries) < 2 && !root || n.Rows != len(n.Entries) {
			return "a leaf " + shape(n), 0
		}
		return "", 0
	}
	if len(n.Children) > 4 || len(n.Children) < 2 || n.Entries != nil || n.Least != n.Children[0].Least {
		return "an inner node " + shape(n), 0
	}
	rows, depth := 0, -1
	for _, c := range n.Children {
		wrong, deep := sound(c, false)
		if wrong != "" || depth >= 0 && deep != depth {
			return "below " + shape(n) + ": " + wrong, 0
		}
		rows, depth = rows+c.Rows, deep
	}
	if rows != n.Rows {
		return "a count of " + shape(n), 0
	}
	return "", depth + 1
}

func listed(n Node) []int {
	var out []int
	for _, e := range n.Through(0, 1<<40, new(Trail)) {
		out = append(out, int(e.Place))
	}
	return out
}

// P10: whatever is put and deleted, the tree can be, and has just these rows.
func TestSound(t *testing.T) {
	r := rand.New(rand.NewSource(1))
	for round := 0; round < 60; round++ {
		var n Node
		there := map[int]bool{}
		for i := 0; i < 300; i++ {
			place := r.Intn(90)
			if r.Intn(200) < i {
				n = n.Delete(int64(place), new(Trail))
				delete(there, place)
			} else {
				n = n.Put(int64(place), "x", new(Trail))
				there[place] = true
			}
			var want []int
			for p := range there {
				want = append(want, p)
			}
			sort.Ints(want)
			if wrong, _ := sound(n, true); wrong != "" || !reflect.DeepEqual(listed(n), want) {
				t.Fatalf("P10: %s: %v, want %v", wrong, listed(n), want)
			}
		}
	}
}

func TestBytes(t *testing.T) {
	unhex := func(s string) string {
		b, e := hex.DecodeString(strings.ReplaceAll(s, " ", ""))
		if e != nil {
			t.Fatal(e)
		}
		return string(b)
	}
	sum := func(s string) string {
		d := sha256.Sum256([]byte(s))
		return string(d[:])
	}
	left, right := unhex("01 02 00800000010161 ffffffffff00"), unhex("01 02 010000000002626300000000ff0164")
	n := Inner([]Node{Leaf([]Entry{{0x0080000001, "a"}, {0xffffffffff, ""}}), Leaf([]Entry{{0x0100000000, "bc"}, {0xff, "d"}})})
	if n.Children[0].Bytes(1) != left || n.Children[1].Bytes(7) != right || (Node{}).Bytes(3) != "\x01\x00" {
		t.Errorf("P11: leaves %x, %x, %x", n.Children[0].Bytes(1), n.Children[1].Bytes(7), Node{}.Bytes(3))
	}
	for _, wide := range []int{1, 2, 31, 32} {
		want := unhex("02 02 0080000001 02") + sum(left)[:wide] + unhex("0100000000 02") + sum(right)[:wide]
		if got := n.Bytes(wide); got != want || n.Digest(wide) != sum(want)[:wide] {
			t.Errorf("P11: width %d: %x, want %x", wide, got, want)
		}
	}
	over := Inner([]Node{Shut("seal", 1, 300), Shut("lock", 2, 255)})
	if got, want := over.Bytes(4), unhex("02 02 0000000001 2c")+"seal"+unhex("0000000002 ff")+"lock"; got != want || over.Rows != 555 {
		t.Errorf("P15: a count above 255: %x, want %x; %d rows", got, want, over.Rows)
	}
	if got := over.Children[0].Digest(4); got != "seal" {
		t.Errorf("P13: the digest of a shut node is %q", got)
	}
}

// P1: nodes that no tree has end all the same.
func TestOddNodes(t *testing.T) {
	empty, shut := Inner(nil), Shut("seal", 0, 9)
	one := Inner([]Node{empty})
	for _, n := range []Node{empty, one, Inner([]Node{Leaf(nil)}), Inner([]Node{empty, Leaf(nil)}), shut, Inner([]Node{shut}), Inner([]Node{shut, Inner([]Node{shut, shut})})} {
		var trail Trail
		n.Put(1, "x", &trail).Put(2, "y", &trail).Delete(1, &trail)
		n.Delete(1, &trail).Delete(2, &trail)
		n.Has(1, &trail)
		n.Through(0, 9, &trail)
		n.Numbered().Digest(4)
		n.Written(nil)
	}
}
