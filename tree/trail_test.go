package tree

import (
	"reflect"
	"strconv"
	"strings"
	"testing"
)

// marked is the shape of a tree; the nodes that were touched stand between [ and ].
func marked(n Node, trail *Trail) string {
	out := ""
	for _, e := range n.Entries {
		out += " " + strconv.FormatInt(e.Place, 10)
	}
	for _, c := range n.Children {
		out += marked(c, trail)
	}
	if trail.Touched(n) {
		return "[" + strings.TrimSpace(out) + "]"
	}
	return "(" + strings.TrimSpace(out) + ")"
}

// unmarked is the shape alone.
func unmarked(text string) string {
	return strings.NewReplacer("[", "(", "]", ")").Replace(text)
}

func wantMarked(t *testing.T, what string, n Node, trail *Trail, want string) {
	t.Helper()
	if got := marked(n, trail); got != want || trail.Lost {
		t.Errorf("P12: %s touches %s, want %s; lost %v", what, got, want, trail.Lost)
	}
}

func TestThroughTouches(t *testing.T) {
	for _, c := range []struct {
		lo, hi int64
		want   string
	}{
		{0, 9, "[]"},
		{0, 9, "[1 2]"},
		{5, 9, "[1 2]"},
		{0, 99, "[[10 20][30 40][50 60]]"},
		{30, 30, "[(10 20)[30 40](50 60)]"},
		{29, 29, "[[10 20](30 40)(50 60)]"},
		{29, 30, "[[10 20][30 40](50 60)]"},
		{30, 49, "[(10 20)[30 40](50 60)]"},
		{30, 50, "[(10 20)[30 40][50 60]]"},
		{45, 45, "[(10 20)[30 40](50 60)]"},
		{50, 50, "[(10 20)(30 40)[50 60]]"},
		{99, 99, "[(10 20)(30 40)[50 60]]"},
		{0, 10, "[[10 20](30 40)(50 60)]"},
		{0, 9, "[(10 20)(30 40)(50 60)]"},
		{25, 55, "[[[10 20][30 40]][[50 60](70 80)]]"},
		{35, 45, "[[(10 20)[30 40]]((50 60)(70 80))]"},
		{50, 69, "[((10 20)(30 40))[[50 60](70 80)]]"},
	} {
		n := grown(unmarked(c.want)).Numbered()
		var trail Trail
		n.Through(c.lo, c.hi, &trail)
		wantMarked(t, "looking through", n, &trail, c.want)
	}
}

// The way goes to the first child, where no least place is low enough; looking
// through does not.
func TestWayTouches(t *testing.T) {
	for _, c := range []struct {
		place int64
		want  string
	}{
		{5, "[]"},
		{5, "[10 20]"},
		{5, "[[10 20](30 40)(50 60)]"},
		{10, "[[10 20](30 40)(50 60)]"},
		{29, "[[10 20](30 40)(50 60)]"},
		{30, "[(10 20)[30 40](50 60)]"},
		{49, "[(10 20)[30 40](50 60)]"},
		{99, "[(10 20)(30 40)[50 60]]"},
		{55, "[((10 20)(30 40))[[50 60](70 80)]]"},
		{5, "[[[10 20](30 40)]((50 60)(70 80))]"},
		{30, "[[(10 20)[30 40]]((50 60)(70 80))]"},
		{45, "[[(1 2)(10 20 30 40)[45 50](60 70)]((90 91)(92 93))]"},
	} {
		n := grown(unmarked(c.want)).Numbered()
		var has, put Trail
		n.Has(c.place, &has)
		wantMarked(t, "the way", n, &has, c.want)
		n.Put(c.place, "x", &put)
		wantMarked(t, "a put", n, &put, c.want)
	}
}

// A node that becomes two touches no neighbour.
func TestSplitTouches(t *testing.T) {
	want := "[[(1 2)(3 4)[5 6 7 8](11 12)]((20 21)(22 23))]"
	n := grown(unmarked(want)).Numbered()
	var trail Trail
	next := n.Put(10, "x", &trail)
	wantMarked(t, "a put", n, &trail, want)
	if got := shape(next); got != "(((1 2)(3 4)(5 6 7))((8 10)(11 12))((20 21)(22 23)))" {
		t.Errorf("P10: %s", got)
	}
	// The way through new nodes is none in the old tree; that to an old leaf is.
	next = next.Put(9, "x", &trail)
	wantMarked(t, "a put", n, &trail, want)
	next.Put(3, "x", &trail)
	wantMarked(t, "a put", n, &trail, "[[(1 2)[3 4][5 6 7 8](11 12)]((20 21)(22 23))]")
}

func TestDeleteTouches(t *testing.T) {
	for _, c := range []struct {
		places []int64
		want   string
	}{
		{[]int64{1}, "[1 2]"},
		{[]int64{1, 2, 3}, "[1 2 3]"},
		{[]int64{2}, "[[1 2 3](4 5)(6 7)]"},
		{[]int64{2, 3}, "[[1 2 3][4 5](6 7)]"},
		{[]int64{1}, "[[1 2][3 4](5 6)]"},
		{[]int64{3}, "[(1 2)[3 4][5 6]]"},
		{[]int64{6}, "[(1 2)[3 4][5 6]]"},
		{[]int64{5, 6}, "[(1 2)[3 4][5 6]]"},
		{[]int64{1, 2}, "[[1 2][3 4](5 6)]"},
		{[]int64{1, 2, 3}, "[[1 2][3 4][5 6]]"},
		// five become two: the second is new, and its neighbour stays untouched
		{[]int64{1, 2}, "[[1 2][3 4 5 6](7 8)]"},
		{[]int64{7}, "[(1 2)[3 4 5 6][7 8]]"},
		// inner nodes are joined: the neighbour is touched, and not what is below it
		{[]int64{1}, "[[[1 2][3 4]][(5 6)(7 8)]((9 10)(11 12))]"},
		{[]int64{8}, "[((1 2)(3 4))[[5 6][7 8]][(9 10)(11 12)]]"},
		{[]int64{12}, "[((1 2)(3 4))[(5 6)(7 8)][[9 10][11 12]]]"},
		{[]int64{4}, "[[(1 2)[3 4][5 6]]((7 8)(9 10))]"},
		// and a child that goes into the new node is the same as before
		{[]int64{1, 5}, "[[[1 2][3 4]][[5 6][7 8]]((9 10)(11 12))]"},
		{[]int64{1, 8}, "[[[1 2][3 4]][[5 6][7 8]]((9 10)(11 12))]"},
		{[]int64{1, 2, 3}, "[[[1 2][3 4]][[5 6](7 8)]((9 10)(11 12))]"},
		// in the tree as it is then: the joined (2 3 4) is new, and may lose one more
		{[]int64{1, 2}, "[[[1 2][3 4]][(5 6)(7 8)]((9 10)(11 12))]"},
		// no row there: the way alone
		{[]int64{7}, "[[1 2](8 9)(10 11)]"},
	} {
		n := grown(unmarked(c.want)).Numbered()
		var trail Trail
		next := n
		for _, place := range c.places {
			next = next.Delete(place, &trail)
		}
		wantMarked(t, "deleting", n, &trail, c.want)
	}
}

// Each node of a numbered tree has a number of its own, and is else as it was.
func TestNumbered(t *testing.T) {
	text := "(((1 2)(3 4))((5 6)(7 8)(9 10)))"
	n := grown(text).Numbered().Put(11, "x", new(Trail)).Delete(11, new(Trail)).Numbered()
	seen := map[int]bool{}
	var plain func(n Node) Node
	plain = func(n Node) Node {
		if seen[n.Number] || n.Number < 1 {
			t.Errorf("the number %d of %s", n.Number, shape(n))
		}
		seen[n.Number] = true
		for i, c := range n.Children {
			n.Children[i] = plain(c)
		}
		n.Number = 0
		return n
	}
	if got := plain(n); !reflect.DeepEqual(got, grown(text)) || len(seen) != 8 {
		t.Errorf("%s with %d numbers", shape(got), len(seen))
	}
	old := grown(text)
	old.Numbered()
	if !reflect.DeepEqual(old, grown(text)) {
		t.Error("numbering turned the tree")
	}
}

// P15: a trail is lost at a node that is shut, and at no other.
func TestLost(t *testing.T) {
	three := func() Node {
		return Inner([]Node{Shut("a", 10, 2), grown("(30 40)"), Shut("c", 50, 2)})
	}
	deep := Inner([]Node{Inner([]Node{grown("(1 2)"), grown("(3 4)")}), Shut("d", 5, 200), Shut("e", 9, 3)})
	wide := Inner([]Node{Inner([]Node{grown("(1 2)"), grown("(3 4)")}), Inner([]Node{Shut("d", 5, 200), Shut("e", 9, 3)})})
	for _, c := range []struct {
		what string
		n    Node
		do   func(n Node, trail *Trail)
		want bool
	}{
		{"Has 30", three(), func(n Node, trail *Trail) { n.Has(30, trail) }, false},
		{"Has 29", three(), func(n Node, trail *Trail) { n.Has(29, trail) }, true},
		{"Has 50", three(), func(n Node, trail *Trail) { n.Has(50, trail) }, true},
		{"Has 5", three(), func(n Node, trail *Trail) { n.Has(5, trail) }, true},
		{"Put 35", three(), func(n Node, trail *Trail) { n.Put(35, "", trail) }, false},
		{"Put 9", three(), func(n Node, trail *Trail) { n.Put(9, "", trail) }, true},
		{"Through 30 to 49", three(), func(n Node, trail *Trail) { n.Through(30, 49, trail) }, false},
		{"Through 30 to 50", three(), func(n Node, trail *Trail) { n.Through(30, 50, trail) }, true},
		{"Through 29 to 49", three(), func(n Node, trail *Trail) { n.Through(29, 49, trail) }, true},
		{"Through 1 to 9", three(), func(n Node, trail *Trail) { n.Through(1, 9, trail) }, false},
		{"Delete 35", three(), func(n Node, trail *Trail) { n.Put(35, "", trail).Delete(35, trail) }, false},
		{"Delete 30", three(), func(n Node, trail *Trail) { n.Delete(30, trail) }, true},
		{"Delete 1, a shut neighbour", deep, func(n Node, trail *Trail) { n.Delete(1, trail) }, true},
		{"Delete 1, a shut child of a neighbour", wide, func(n Node, trail *Trail) { n.Delete(1, trail) }, false},
		{"Through a shut root", Shut("r", 0, 0), func(n Node, trail *Trail) { n.Through(1, 2, trail) }, true},
		{"Put in a shut root", Shut("r", 0, 0), func(n Node, trail *Trail) { n.Put(1, "", trail) }, true},
		{"nothing in a shut root", Shut("r", 0, 0), func(n Node, trail *Trail) {}, false},
	} {
		var trail Trail
		c.do(c.n, &trail)
		if trail.Lost != c.want {
			t.Errorf("P15: %s: lost %v, want %v", c.what, trail.Lost, c.want)
		}
	}
}
