package proofs

import (
	"sqlproof/api"
	"sqlproof/digest"
	"sqlproof/pack"
	"sqlproof/tree"
)

// Read is the tree that a text tells; false, if it is no proof for that width.
func Read(text string, wide int) (tree.Node, bool) {
	if !digest.IsWidth(wide) || len(text) > api.MaxProof {
		return tree.Node{}, false
	}
	r := pack.Read(text)
	root := readNode(&r, wide)
	if !r.Done() || !canBe(root) {
		return tree.Node{}, false
	}
	return root, true
}

// readNode ends at every text: a node takes at least a byte, and a reader that
// came to the end, or failed, tells of shut nodes alone.
func readNode(r *pack.Reader, wide int) tree.Node {
	kind := r.Number(1)
	switch kind {
	case tree.KindShut:
		seal := r.Take(wide)
		return tree.Shut(seal, 0, 0)
	case tree.KindLeaf:
		return readLeaf(r)
	case tree.KindInner:
		return readInner(r, wide)
	}
	r.Fail()
	return tree.Node{}
}

func readLeaf(r *pack.Reader) tree.Node {
	var entries []tree.Entry
	count := r.Number(1)
	for i := int64(0); i < count; i++ {
		place := r.Number(tree.PlaceWide)
		row := r.Text()
		entries = append(entries, tree.Entry{Place: place, Row: row})
	}
	return tree.Leaf(entries)
}

// readInner tests here what is said of open children, since the nodes themselves
// keep only what is so.
func readInner(r *pack.Reader, wide int) tree.Node {
	var children []tree.Node
	count := r.Number(1)
	for i := int64(0); i < count; i++ {
		least := r.Number(tree.PlaceWide)
		rows := r.Number(1)
		child := readNode(r, wide)
		if child.IsShut() {
			child = tree.Shut(child.Seal, least, int(rows))
		} else if child.Least != least || int64(child.Rows) != rows {
			r.Fail()
		}
		children = append(children, child)
	}
	return tree.Inner(children)
}
