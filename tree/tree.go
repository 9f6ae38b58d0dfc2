// Package tree is the one tree in which all rows lie (P10), its bytes and digests
// (P11), and the trail of what is touched of it (P12). No call turns a node: what
// puts or deletes answers another root, so that whoever holds the old one still
// has the old tree.
package tree

import "sqlproof/api"

// Entry is a row's bytes and where the row lies.
type Entry struct {
	Place int64
	Row   string
}

// Node is a leaf or an inner node, with all below it; or it is shut, and no more is
// known of it than its digest and what the node above it says. The empty Node is
// the tree as it is at first.
type Node struct {
	Inner    bool
	Entries  []Entry // of a leaf
	Children []Node  // of an inner node
	Least    int64   // the least place in it; of a leaf without entries 0
	Rows     int     // how many rows are in it
	Seal     string  // the digest of a node that is shut; of others empty
	Number   int     // tells a node of a numbered tree; 0, if it was put together later
}

// three of five go to the left, where a node becomes two.
const three = api.Full + 1 - api.Half

// Leaf is a leaf of such entries.
func Leaf(entries []Entry) Node {
	own := make([]Entry, len(entries))
	copy(own, entries)
	n := Node{Entries: own, Rows: len(own)}
	if len(own) > 0 {
		n.Least = own[0].Place
	}
	return n
}

// Inner is an inner node of such children.
func Inner(children []Node) Node {
	own := make([]Node, len(children))
	copy(own, children)
	n := Node{Inner: true, Children: own}
	for i := 0; i < len(own); i++ {
		n.Rows += own[i].Rows
	}
	if len(own) > 0 {
		n.Least = own[0].Least
	}
	return n
}

// Shut is a node of which the digest is known, and what the node above it says.
func Shut(seal string, least int64, rows int) Node {
	return Node{Seal: seal, Least: least, Rows: rows}
}

// IsShut tells whether all that is in the node is hidden.
func (n Node) IsShut() bool {
	return n.Seal != ""
}

// leaves are the one leaf, or the two, that entries make.
func leaves(entries []Entry) []Node {
	if len(entries) <= api.Full {
		return []Node{Leaf(entries)}
	}
	return []Node{Leaf(entries[:three]), Leaf(entries[three:])}
}

// inners are the one inner node, or the two, that children make.
func inners(children []Node) []Node {
	if len(children) <= api.Full {
		return []Node{Inner(children)}
	}
	return []Node{Inner(children[:three]), Inner(children[three:])}
}

// Size is how many entries, or children, a node has.
func (n Node) Size() int {
	if n.Inner {
		return len(n.Children)
	}
	return len(n.Entries)
}

// way is the number of the child through which the way to a place goes.
func (n Node) way(place int64) int {
	at := 0
	for i := 1; i < len(n.Children); i++ {
		if n.Children[i].Least <= place {
			at = i
		}
	}
	return at
}

// Has tells whether a row lies at a place; the way to it is touched.
func (n Node) Has(place int64, trail *Trail) bool {
	trail.touch(n)
	if n.Inner {
		at := n.way(place)
		return at < len(n.Children) && n.Children[at].Has(place, trail)
	}
	for i := 0; i < len(n.Entries); i++ {
		if n.Entries[i].Place == place {
			return true
		}
	}
	return false
}

// Through is the entries from the place lo to the place hi, in their order; what
// is looked through for them is touched.
func (n Node) Through(lo int64, hi int64, trail *Trail) []Entry {
	trail.touch(n)
	var found []Entry
	for i := 0; i < len(n.Entries); i++ {
		if lo <= n.Entries[i].Place && n.Entries[i].Place <= hi {
			found = append(found, n.Entries[i])
		}
	}
	for i := 0; i < len(n.Children); i++ {
		if n.mayHave(i, lo, hi) {
			below := n.Children[i].Through(lo, hi, trail)
			found = append(found, below...)
		}
	}
	return found
}

// mayHave tells whether a child may have rows from lo to hi, as far as the node
// itself can tell.
func (n Node) mayHave(child int, lo int64, hi int64) bool {
	next := child + 1
	if child < 0 || child >= len(n.Children) || n.Children[child].Least > hi {
		return false
	}
	return next == len(n.Children) || n.Children[next].Least > lo
}
