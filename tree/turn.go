package tree

import "sqlproof/api"

// Put is the tree of a root with a row laid at a place, instead of one there; the
// way to it is touched.
func (n Node) Put(place int64, row string, trail *Trail) Node {
	parts := n.put(Entry{Place: place, Row: row}, trail)
	if len(parts) == 1 {
		return parts[0]
	}
	return Inner(parts)
}

// put is the one node, or the two, that a node becomes.
func (n Node) put(entry Entry, trail *Trail) []Node {
	trail.touch(n)
	if !n.Inner {
		return leaves(with(n.Entries, entry))
	}
	at := n.way(entry.Place)
	if at >= len(n.Children) {
		return leaves([]Entry{entry})
	}
	parts := n.Children[at].put(entry, trail)
	return inners(exchanged(n.Children, at, 1, parts))
}

// with is the entries with one more, or another at its place.
func with(entries []Entry, entry Entry) []Entry {
	var all []Entry
	at := 0
	for at < len(entries) && entries[at].Place < entry.Place {
		all = append(all, entries[at])
		at++
	}
	all = append(all, entry)
	for ; at < len(entries); at++ {
		if entries[at].Place != entry.Place {
			all = append(all, entries[at])
		}
	}
	return all
}

// exchanged is the children with others instead of so many from a number on.
func exchanged(children []Node, at int, many int, others []Node) []Node {
	var all []Node
	for i := 0; i < len(children) && i < at; i++ {
		all = append(all, children[i])
	}
	all = append(all, others...)
	for i := at + many; i < len(children); i++ {
		all = append(all, children[i])
	}
	return all
}

// Delete is the tree of a root without the row at a place; the way to it is
// touched, and so are the neighbours that are joined.
func (n Node) Delete(place int64, trail *Trail) Node {
	root := n.without(place, trail)
	if root.Inner && len(root.Children) == 1 {
		return root.Children[0]
	}
	return root
}

// without may leave a node too small: it is the node above that joins it.
func (n Node) without(place int64, trail *Trail) Node {
	trail.touch(n)
	if !n.Inner {
		return Leaf(dropped(n.Entries, place))
	}
	at := n.way(place)
	if at >= len(n.Children) {
		return n
	}
	child := n.Children[at].without(place, trail)
	children := exchanged(n.Children, at, 1, []Node{child})
	if child.Size() < api.Half {
		children = joined(children, at, trail)
	}
	return Inner(children)
}

func dropped(entries []Entry, place int64) []Entry {
	var rest []Entry
	for i := 0; i < len(entries); i++ {
		if entries[i].Place != place {
			rest = append(rest, entries[i])
		}
	}
	return rest
}

// joined is the children, one of them put together with its neighbour to the
// right, or, if it is the last, to the left. Both are noted as touched: the one
// that is too small is no longer a node of the old tree, so that it does not count.
func joined(children []Node, at int, trail *Trail) []Node {
	if at == len(children)-1 {
		at--
	}
	if at < 0 || at+1 >= len(children) {
		return children
	}
	trail.touch(children[at])
	trail.touch(children[at+1])
	return exchanged(children, at, 2, together(children[at], children[at+1]))
}

// together is the one node, or the two, that two neighbours make.
func together(left Node, right Node) []Node {
	if left.Inner {
		return inners(exchanged(left.Children, len(left.Children), 0, right.Children))
	}
	var all []Entry
	all = append(all, left.Entries...)
	all = append(all, right.Entries...)
	return leaves(all)
}
