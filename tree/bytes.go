package tree

import (
	"sqlproof/digest"
	"sqlproof/pack"
)

// The kinds of a node, as they are written, and how many bytes a place has.
const (
	KindShut  = 0
	KindLeaf  = 1
	KindInner = 2
	PlaceWide = 5
)

// Bytes are what is digested of a node that is open, where digests are so wide
// (P11).
func (n Node) Bytes(wide int) string {
	var digests []string
	for i := 0; i < len(n.Children); i++ {
		digests = append(digests, n.Children[i].Digest(wide))
	}
	return n.Written(digests)
}

// Written is an open node as bytes, with a text for each of its children: the
// child's digest (P11), or what a proof has of the child (P13).
func (n Node) Written(below []string) string {
	kind := int64(KindLeaf)
	if n.Inner {
		kind = KindInner
	}
	out := pack.Number(kind, 1) + pack.Number(int64(n.Size()), 1)
	for i := 0; i < len(n.Entries); i++ {
		out += pack.Number(n.Entries[i].Place, PlaceWide) + pack.Text(n.Entries[i].Row)
	}
	for i := 0; i < len(n.Children) && i < len(below); i++ {
		out += pack.Number(n.Children[i].Least, PlaceWide) + pack.Number(int64(n.Children[i].Rows), 1) + below[i]
	}
	return out
}

// Digest is the digest of a node's bytes.
func (n Node) Digest(wide int) string {
	if n.IsShut() {
		return n.Seal
	}
	return digest.Of(n.Bytes(wide), wide)
}
