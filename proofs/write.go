// Package proofs writes proofs (P13), reads them (P14), and compares them with the
// tree (P16).
package proofs

import (
	"sqlproof/pack"
	"sqlproof/tree"
)

// Write is the proof that a trail leaves in a numbered tree, where digests are so
// wide.
func Write(n tree.Node, trail *tree.Trail, wide int) string {
	if !trail.Touched(n) {
		return pack.Number(tree.KindShut, 1) + n.Digest(wide)
	}
	var below []string
	for i := 0; i < len(n.Children); i++ {
		below = append(below, Write(n.Children[i], trail, wide))
	}
	return n.Written(below)
}
