package tree

import (
	"sqlproof/digest"
	"sqlproof/pack"
)

const (
	kindLeaf  = 1
	kindInner = 2
	placeWide = 5 // bytes of a place
)

// Bytes are what is digested of a node, where digests are so wide (P11).
func (n Node) Bytes(wide int) string {
	kind := int64(kindLeaf)
	if n.Inner {
		kind = kindInner
	}
	out := pack.Number(kind, 1) + pack.Number(int64(n.size()), 1)
	for i := 0; i < len(n.Entries); i++ {
		out += pack.Number(n.Entries[i].Place, placeWide) + pack.Text(n.Entries[i].Row)
	}
	for i := 0; i < len(n.Children); i++ {
		child := n.Children[i]
		out += pack.Number(child.Least, placeWide) + pack.Number(int64(child.Rows), 1) + child.Digest(wide)
	}
	return out
}

// Digest is the digest of a node's bytes.
func (n Node) Digest(wide int) string {
	return digest.Of(n.Bytes(wide), wide)
}
