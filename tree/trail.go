package tree

// Trail is which nodes of a numbered tree a statement has touched (P12). It is
// lost where it comes to a node that is shut, or, as whoever reads the rows must
// note, to a row that is none: what follows is then worth nothing.
type Trail struct {
	Lost    bool
	numbers []int
}

// Touched tells whether a node of the numbered tree was touched.
func (t *Trail) Touched(n Node) bool {
	for i := 0; i < len(t.numbers); i++ {
		if t.numbers[i] == n.Number {
			return true
		}
	}
	return false
}

// touch passes by a node without a number: it was put together after the tree was
// numbered, and is none of the old nodes.
func (t *Trail) touch(n Node) {
	if n.IsShut() {
		t.Lost = true
	}
	if n.Number > 0 && !t.Touched(n) {
		t.numbers = append(t.numbers, n.Number)
	}
}

// Numbered is the same tree, each of its nodes with a number of its own.
func (n Node) Numbered() Node {
	root, _ := n.numbered(1)
	return root
}

// numbered takes the first number, and tells the first that is left.
func (n Node) numbered(first int) (Node, int) {
	var children []Node
	next := first + 1
	for i := 0; i < len(n.Children); i++ {
		child, after := n.Children[i].numbered(next)
		children = append(children, child)
		next = after
	}
	n.Children = children
	n.Number = first
	return n, next
}
