package btree

import (
	"bytes"
	"slices"

	"deponent/api"
	"deponent/codec"
	"deponent/pages"
)

const (
	nodeExtra  = 5                    // bytes of a node beside its entries: the count of its text, its level, the count of its entries
	entryExtra = 4                    // bytes of an entry beside its key and its value: their counts, or the key's and a page
	room       = api.Page - nodeExtra // for entries; two of the largest fit
)

// node is what lies on a page: at level 0, a leaf, pairs; above it the nodes of the level below, by the lowest keys that they may have.
type node struct {
	level   int
	entries []entry
}

// entry is a pair, or a node below another one. The first one of a node above the leaves has no key: the node's own is its lowest.
type entry struct {
	key   []byte
	value []byte // of a pair
	page  int    // where the node lies; 0, if it is to be laid down
	node  *node  // the node that is to be laid down
}

func (x entry) size() int { return entryExtra + len(x.key) + len(x.value) }

func (n *node) size() int {
	size := 0
	for _, x := range n.entries {
		size += x.size()
	}
	return size
}

// find answers the place of key among the entries, or the one that it would have.
func (n *node) find(key []byte) (int, bool) {
	return slices.BinarySearchFunc(n.entries, key, func(x entry, key []byte) int { return bytes.Compare(x.key, key) })
}

// way answers the entry below which key is, if it is anywhere.
func (n *node) way(key []byte) int {
	i, found := n.find(key)
	if found {
		return i
	}
	return max(0, i-1)
}

func (n *node) sheet(page int) pages.Sheet {
	w := codec.NewWriter()
	w.Number(uint64(n.level), 1)
	w.Number(uint64(len(n.entries)), 2)
	for _, x := range n.entries {
		w.Bytes(x.key)
		if n.level == 0 {
			w.Bytes(x.value)
		} else {
			w.Number(uint64(x.page), 2)
		}
	}
	return sheetOf(page, w.Done())
}

// readNode answers the node that lies on a page; ErrDisk, if there is none of that level. As levels go down, no way through nodes is without an end, whatever something else has put.
func readNode(s *pages.Store, page, level int) (*node, api.Errno) {
	r, why := readSheet(s, page)
	if why != api.OK {
		return nil, why
	}
	n := &node{level: int(r.Number(1))}
	for range r.Number(2) {
		n.entries = append(n.entries, readEntry(r, n.level))
	}
	if r.End() != nil || n.level != level || !n.isWhole() {
		return nil, api.ErrDisk
	}
	return n, api.OK
}

func readEntry(r *codec.Reader, level int) entry {
	x := entry{key: r.Bytes(api.MaxKey)}
	if level == 0 {
		x.value = r.Bytes(api.MaxValue)
	} else {
		x.page = int(r.Number(2))
	}
	return x
}

// isWhole tells whether the node is one that can be gone through: its keys go up, and no entry is without a key or a page that must have one.
func (n *node) isWhole() bool {
	for i, x := range n.entries {
		isFirst := n.level > 0 && i == 0
		if isFirst != (len(x.key) == 0) || i > 0 && bytes.Compare(n.entries[i-1].key, x.key) >= 0 {
			return false
		}
		if n.level > 0 && x.page == headPage {
			return false
		}
	}
	return n.level == 0 || len(n.entries) > 0
}

// leafOf answers the leaf in which key is, if it is anywhere, and the lowest key that the next leaf may have: none, if there is no next one.
func leafOf(s *pages.Store, key []byte) (*node, []byte, api.Errno) {
	h, why := readHead(s)
	if why != api.OK {
		return nil, nil, why
	}
	var next []byte
	n, why := readNode(s, h.root, h.level)
	for why == api.OK && n.level > 0 {
		i := n.way(key)
		if i+1 < len(n.entries) {
			next = n.entries[i+1].key
		}
		n, why = readNode(s, n.entries[i].page, n.level-1)
	}
	return n, next, why
}
