package proofs

import "sqlproof/tree"

// Clash compares a tree with what a proof of the same digest tells of it (P16): the
// bytes of the first node that has others in the proof, and these others; false,
// if there is none. Of two nodes of the same bytes the children are as many, and
// in pairs of the same digests, so that these need no test.
func Clash(own tree.Node, told tree.Node, wide int) (string, string, bool) {
	if told.IsShut() {
		return "", "", false
	}
	ours := own.Bytes(wide)
	others := told.Bytes(wide)
	if ours != others {
		return ours, others, true
	}
	for i := 0; i < len(own.Children) && i < len(told.Children); i++ {
		left, right, found := Clash(own.Children[i], told.Children[i], wide)
		if found {
			return left, right, true
		}
	}
	return "", "", false
}
