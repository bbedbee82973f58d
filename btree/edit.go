package btree

import (
	"bytes"
	"slices"

	"deponent/api"
	"deponent/pages"
)

// edit is what changes make of a tree, till it is put. Nodes that change are taken off their pages, and laid down again when it is known what has become of all of them, so that pages are asked for what is there behind all changes alone.
//
// The entries of two nodes that lie side by side below one node never fit into one. So, but for one node below each, the pages are at least half full: 2^17 bytes of pairs lie on not even 320 pages. Of 512 pages not even 60 are above the leaves. So what one Do makes can be put at once: a change makes at most two leaves of one, and where two nodes above the leaves become one, at most one leaf more is laid down.
type edit struct {
	store  *pages.Store
	head   head // as it will be
	sheets []pages.Sheet
}

// edited answers what must be put to do the changes, which are in order of their keys.
func edited(s *pages.Store, l []Change) ([]pages.Sheet, api.Errno) {
	h, why := readHead(s)
	if why != api.OK {
		return nil, why
	}
	e := &edit{store: s, head: h}
	roots, why := e.change(entry{page: h.root}, h.level, l)
	if why != api.OK {
		return nil, why
	}
	root, why := e.lowest(highest(roots))
	if why != api.OK {
		return nil, why
	}
	if why := e.lay(&root); why != api.OK {
		return nil, why
	}
	e.head.root, e.head.level = root.page, root.node.level
	return append(e.sheets, e.head.sheet()), api.OK
}

// change does the changes in a node and below it, and answers the nodes that take its place, the first of them by its key.
func (e *edit) change(x entry, level int, l []Change) ([]entry, api.Errno) {
	n, why := e.take(x, level)
	if why != api.OK {
		return nil, why
	}
	if level == 0 {
		count := len(n.entries)
		n.entries = merged(n.entries, l)
		e.head.count += len(n.entries) - count
	} else if why := e.changeBelow(n, l); why != api.OK {
		return nil, why
	}
	return split(x.key, n), api.OK
}

// changeBelow does the changes in the nodes below n.
func (e *edit) changeBelow(n *node, l []Change) api.Errno {
	var out []entry
	for i, x := range n.entries {
		mine := l
		if i+1 < len(n.entries) {
			mine = l[:countBelow(l, n.entries[i+1].key)]
		}
		l = l[len(mine):]
		if len(mine) == 0 {
			out = append(out, x)
			continue
		}
		kids, why := e.change(x, n.level-1, mine)
		if why != api.OK {
			return why
		}
		out = append(out, kids...)
	}
	out, why := e.joined(out, n.level-1)
	if len(out) == 1 && out[0].isEmpty() {
		out = nil // so that n itself is joined with the one beside it
	}
	n.entries = out
	return why
}

// joined answers nodes that lie side by side, with those made one that fit into one: such ones of which at least one has changed, as the others did not fit before.
func (e *edit) joined(l []entry, level int) ([]entry, api.Errno) {
	var out []entry
	for _, x := range l {
		if len(out) == 0 || out[len(out)-1].stays() && x.stays() {
			out = append(out, x)
			continue
		}
		last := &out[len(out)-1]
		n, why := e.join(*last, x, level)
		if why != api.OK {
			return nil, why
		}
		if n == nil {
			out = append(out, x)
		} else {
			*last = entry{key: last.key, node: n}
		}
	}
	return out, api.OK
}

// join answers the node of a and b together; none, if they don't fit.
func (e *edit) join(a, b entry, level int) (*node, api.Errno) {
	left, why := e.look(a, level)
	if why != api.OK {
		return nil, why
	}
	right, why := e.look(b, level)
	if why != api.OK || !fit(left.size(), right.size(), b.key, level) {
		return nil, why
	}
	e.leave(a)
	e.leave(b)
	switch {
	case len(left.entries) == 0:
		return right, api.OK
	case len(right.entries) == 0:
		return left, api.OK
	case level > 0:
		return e.sewn(left, right, b.key)
	}
	return &node{entries: slices.Concat(left.entries, right.entries)}, api.OK
}

// fit tells whether the entries of two nodes side by side fit into one: above the leaves the first one of the second gets that one's key.
func fit(left, right int, key []byte, level int) bool {
	if level > 0 && left > 0 && right > 0 {
		right += len(key)
	}
	return left+right <= room
}

// sewn answers the node of two above the leaves together. Below it two nodes have come to lie side by side that may fit into one: the first of them is taken, so that this is looked at.
func (e *edit) sewn(left, right *node, key []byte) (*node, api.Errno) {
	right.entries[0].key = key
	seam := &left.entries[len(left.entries)-1]
	n, why := e.take(*seam, left.level-1)
	if why != api.OK {
		return nil, why
	}
	*seam = entry{key: seam.key, node: n}
	l, why := e.joined(slices.Concat(left.entries, right.entries), left.level-1)
	return &node{level: left.level, entries: l}, why
}

// look answers the node of x.
func (e *edit) look(x entry, level int) (*node, api.Errno) {
	if !x.stays() {
		return x.node, api.OK
	}
	return readNode(e.store, x.page, level)
}

// take answers the node of x, which is to be laid down anew.
func (e *edit) take(x entry, level int) (*node, api.Errno) {
	n, why := e.look(x, level)
	if why == api.OK {
		e.leave(x)
	}
	return n, why
}

// leave makes the page of x free, if it has one.
func (e *edit) leave(x entry) {
	if x.stays() {
		e.head.used.drop(x.page)
	}
}

// lay lays the node of x and all below it down on free pages.
func (e *edit) lay(x *entry) api.Errno {
	if x.stays() {
		return api.OK
	}
	for i := range x.node.entries {
		if x.node.level == 0 {
			break
		}
		if why := e.lay(&x.node.entries[i]); why != api.OK {
			return why
		}
	}
	page, ok := e.head.used.free()
	if !ok {
		return api.ErrFull
	}
	e.head.used.add(page)
	x.page = page
	e.sheets = append(e.sheets, x.node.sheet(page))
	return api.OK
}

// stays tells whether the node of x stays on its page.
func (x entry) stays() bool { return x.page != 0 }

// isEmpty tells whether x is a node that has lost all its entries.
func (x entry) isEmpty() bool { return !x.stays() && len(x.node.entries) == 0 }

// lowest answers the root without those above it that have only one node below them.
func (e *edit) lowest(x entry) (entry, api.Errno) {
	for x.node.level > 0 && len(x.node.entries) < 2 {
		if len(x.node.entries) == 0 {
			return entry{node: &node{}}, api.OK
		}
		n, why := e.take(x.node.entries[0], x.node.level-1)
		if why != api.OK {
			return entry{}, why
		}
		x = entry{node: n}
	}
	return x, api.OK
}

// highest answers the root of nodes that lie side by side.
func highest(l []entry) entry {
	for len(l) > 1 {
		l = split(nil, &node{level: l[0].node.level + 1, entries: l})
	}
	return l[0]
}

// split answers the node as one, or as several, each as full as it can be, if it is too large for a page; the first one has that key.
func split(key []byte, n *node) []entry {
	out := []entry{{key: key, node: &node{level: n.level}}}
	size := 0
	for _, x := range n.entries {
		if size += x.size(); size > room {
			out = append(out, entry{key: x.key, node: &node{level: n.level}})
			if n.level > 0 {
				x.key = nil
			}
			size = x.size()
		}
		last := out[len(out)-1].node
		last.entries = append(last.entries, x)
	}
	return out
}

// merged answers the pairs of a leaf behind the changes, both in order of their keys.
func merged(pairs []entry, l []Change) []entry {
	var out []entry
	for _, c := range l {
		n := node{entries: pairs}
		i, found := n.find(c.Key)
		out = append(out, pairs[:i]...)
		pairs = pairs[i:]
		if found {
			pairs = pairs[1:]
		}
		if !c.Drop {
			out = append(out, entry{key: c.Key, value: c.Value})
		}
	}
	return append(out, pairs...)
}

// countBelow answers how many of the changes, which are in order of their keys, are below key.
func countBelow(l []Change, key []byte) int {
	i, _ := slices.BinarySearchFunc(l, key, func(c Change, key []byte) int { return bytes.Compare(c.Key, key) })
	return i
}
