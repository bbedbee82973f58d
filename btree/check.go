package btree

import (
	"bytes"

	"deponent/api"
	"deponent/pages"
)

// Check tells whether the tree is as Do leaves it: all keys in order, no page lost or in two places, no two nodes side by side that should be one.
func (t *Tree) Check() api.Errno {
	h, why := readHead(t.store)
	if why != api.OK {
		return why
	}
	c := &check{store: t.store}
	c.seen.add(headPage)
	entries, _, why := c.node(h.root, h.level, nil, nil)
	switch {
	case why != api.OK:
		return why
	case h.level > 0 && entries < 2, c.seen != h.used, c.count != h.count:
		return api.ErrDisk
	}
	return api.OK
}

// check is what was seen of a tree so far.
type check struct {
	store *pages.Store
	seen  set
	count int // keys
}

// node looks through a node and all below it, whose keys must be from from on and below to, and answers how many entries it has, and their size. So a node that is in two places is found out: its keys are wrong in one of them.
func (c *check) node(page, level int, from, to []byte) (entries, size int, why api.Errno) {
	n, why := readNode(c.store, page, level)
	if why != api.OK {
		return 0, 0, why
	}
	if !n.isBetween(from, to) {
		return 0, 0, api.ErrDisk
	}
	c.seen.add(page)
	if level == 0 {
		c.count += len(n.entries)
	} else if why := c.below(n, from, to); why != api.OK {
		return 0, 0, why
	}
	return len(n.entries), n.size(), api.OK
}

// below looks through the nodes below n.
func (c *check) below(n *node, from, to []byte) api.Errno {
	before := room + 1
	for i, x := range n.entries {
		low, high := from, to
		if i > 0 {
			low = x.key
		}
		if i+1 < len(n.entries) {
			high = n.entries[i+1].key
		}
		entries, size, why := c.node(x.page, n.level-1, low, high)
		if why != api.OK {
			return why
		}
		if entries == 0 || fit(before, size, x.key, n.level-1) {
			return api.ErrDisk
		}
		before = size
	}
	return api.OK
}

// isBetween tells whether the keys of n are from from on and below to. As they go up, the first and the last one tell it.
func (n *node) isBetween(from, to []byte) bool {
	keys := n.entries
	if n.level > 0 {
		keys = keys[1:]
	}
	if len(keys) == 0 {
		return true
	}
	return bytes.Compare(keys[0].key, from) >= 0 && below(keys[len(keys)-1].key, to)
}
