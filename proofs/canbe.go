package proofs

import (
	"sqlproof/api"
	"sqlproof/tree"
)

// canBe tells whether a tree of which a text tells can be, as far as the nodes that
// are open show it.
func canBe(root tree.Node) bool {
	least := api.Half
	if !root.Inner {
		least = 0
	}
	return sized(root, least) && rising(places(root)) && isLevel(root)
}

// sized tells whether the open nodes have as many entries as they may; least is
// for the node itself.
func sized(n tree.Node, least int) bool {
	if n.IsShut() {
		return true
	}
	size := n.Size()
	if size < least || size > api.Full {
		return false
	}
	for i := 0; i < len(n.Children); i++ {
		if !sized(n.Children[i], api.Half) {
			return false
		}
	}
	return true
}

// places are those of all rows that are told, and the least ones of the children
// that are shut, from the left to the right.
func places(n tree.Node) []int64 {
	var list []int64
	for i := 0; i < len(n.Entries); i++ {
		list = append(list, n.Entries[i].Place)
	}
	for i := 0; i < len(n.Children); i++ {
		if n.Children[i].IsShut() {
			list = append(list, n.Children[i].Least)
		} else {
			list = append(list, places(n.Children[i])...)
		}
	}
	return list
}

func rising(list []int64) bool {
	for i := 1; i < len(list); i++ {
		if list[i-1] >= list[i] {
			return false
		}
	}
	return true
}

// levels are how deep the open nodes lie: -1, where there are none such.
type levels struct {
	highLeaf  int // the leaf that is the least deep
	deepLeaf  int
	deepInner int
}

// isLevel tells whether all open leaves are equally deep, and the open inner nodes
// less deep than these.
func isLevel(root tree.Node) bool {
	l := levels{highLeaf: -1, deepLeaf: -1, deepInner: -1}
	l.note(root, 0)
	if l.deepLeaf < 0 {
		return true
	}
	return l.highLeaf == l.deepLeaf && l.deepInner < l.deepLeaf
}

func (l *levels) note(n tree.Node, depth int) {
	if n.IsShut() {
		return
	}
	if n.Inner {
		l.noteInner(depth)
	} else {
		l.noteLeaf(depth)
	}
	for i := 0; i < len(n.Children); i++ {
		l.note(n.Children[i], depth+1)
	}
}

func (l *levels) noteInner(depth int) {
	if depth > l.deepInner {
		l.deepInner = depth
	}
}

func (l *levels) noteLeaf(depth int) {
	if l.highLeaf < 0 || depth < l.highLeaf {
		l.highLeaf = depth
	}
	if depth > l.deepLeaf {
		l.deepLeaf = depth
	}
}
