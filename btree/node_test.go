package btree

import (
	"bytes"
	"fmt"
	"math/bits"
	"math/rand"
	"strings"
	"testing"

	"deponent/api"
	"deponent/disk"
	"deponent/pages"
)

func (s set) size() int {
	n := 0
	for _, b := range s {
		n += bits.OnesCount8(b)
	}
	return n
}

func (s set) has(page int) bool { return s[page/8]>>(page%8)&1 == 1 }

func newTree(t *testing.T) (*disk.Disk, *Tree) {
	t.Helper()
	d, _ := disk.New(api.Need)
	if why := Format(d); why != api.OK {
		t.Fatalf("Format: %v", why)
	}
	x, why := Open(d)
	if why != api.OK {
		t.Fatalf("Open: %v", why)
	}
	return d, x
}

func headOf(t *testing.T, x *Tree) head {
	t.Helper()
	h, why := readHead(x.store)
	if why != api.OK {
		t.Fatalf("the head: %v", why)
	}
	return h
}

// key answers a key of MaxKey bytes.
func key(n int) []byte { return fmt.Appendf(nil, "%0*d", api.MaxKey, n) }

// text answers so many bytes.
func text(n int) []byte { return bytes.Repeat([]byte("v"), n) }

func do(t *testing.T, x *Tree, l ...Change) {
	t.Helper()
	if why := x.Do(l...); why != api.OK {
		t.Fatalf("Do: %v", why)
	}
	if why := x.Check(); why != api.OK {
		t.Fatalf("Check: %v", why)
	}
}

// TestSet: a set has the pages that were added and not dropped again; its first free page is the lowest.
func TestSet(t *testing.T) {
	var s set
	for n := range api.MaxPages {
		if page, ok := s.free(); !ok || page != n || s.has(n) {
			t.Fatalf("free: %d, %v, want %d", page, ok, n)
		}
		s.add(n)
		s.add(n)
		if !s.has(n) || s.size() != n+1 {
			t.Fatalf("page %d was not added", n)
		}
	}
	if page, ok := s.free(); ok || page != 0 {
		t.Fatalf("free of all: %d, %v", page, ok)
	}
	for _, n := range []int{511, 300, 8, 7, 0} {
		s.drop(n)
		s.drop(n)
		if page, ok := s.free(); !ok || page != n || s.has(n) {
			t.Fatalf("dropped %d: free is %d, %v", n, page, ok)
		}
	}
	if s.size() != api.MaxPages-5 {
		t.Fatalf("%d pages", s.size())
	}
}

// TestNodesAreRead: nodes are read as they were laid down, the fullest too.
func TestNodesAreRead(t *testing.T) {
	d, x := newTree(t)
	full := &node{}
	for n := range 2 {
		full.entries = append(full.entries, entry{key: key(n), value: text(api.MaxValue)})
	}
	full.entries = append(full.entries, entry{key: key(2), value: text(room - full.size() - entryExtra - api.MaxKey)})
	small := &node{}
	for n := range 1 << 8 {
		small.entries = append(small.entries, entry{key: []byte{byte(n)}})
	}
	small.entries = small.entries[:room/(entryExtra+1)]
	above := &node{level: 7, entries: []entry{{page: 511}}}
	for n := range 23 {
		above.entries = append(above.entries, entry{key: key(n), page: 1 + n})
	}
	for i, n := range []*node{{}, full, small, above} {
		if n.size() > room {
			t.Fatalf("%d: %d bytes", i, n.size())
		}
		x.store.Put(n.sheet(9))
		got, why := readNode(x.store, 9, n.level)
		if why != api.OK || fmt.Sprint(got.entries) != fmt.Sprint(n.entries) || got.level != n.level {
			t.Fatalf("%d: %v, %v", i, got, why)
		}
		if got, why := readNode(x.store, 9, n.level+1); why != api.ErrDisk || got != nil {
			t.Fatalf("%d: a node of another level was read", i)
		}
	}
	for i, n := range []*node{{}, full, small, above} {
		for _, by := range []int{-1, 1} {
			b := n.sheet(9).B
			size := int(b[0])<<8 + int(b[1]) + by
			b[0], b[1] = byte(size>>8), byte(size)
			x.store.Put(pages.Sheet{N: 9, B: b})
			if got, why := readNode(x.store, 9, n.level); why != api.ErrDisk || got != nil {
				t.Fatalf("%d, with %d bytes: %v, %v", i, size, got, why)
			}
		}
	}
	if full.size() != room || d.Pending() != 0 {
		t.Fatalf("%d bytes, want %d", full.size(), room)
	}
}

// TestSplit: a node that is too large becomes several, each of which fits a page, with all entries, none of which could be in the one ahead.
func TestSplit(t *testing.T) {
	r := rand.New(rand.NewSource(1))
	for level := range 2 {
		for count := range 120 {
			n := &node{level: level}
			for i := range count {
				x := entry{key: key(i)[:api.MaxKey-r.Intn(30)], page: i + 1}
				if level == 0 {
					x = entry{key: key(i), value: text(r.Intn(api.MaxValue + 1))}
				} else if i == 0 {
					x.key = nil
				}
				n.entries = append(n.entries, x)
			}
			wantSplit(t, n)
		}
	}
}

func wantSplit(t *testing.T, n *node) {
	t.Helper()
	l := split([]byte("low"), n)
	at := 0
	for i, x := range l {
		if x.stays() || x.node.level != n.level || x.node.size() > room || i > 0 && len(x.node.entries) == 0 {
			t.Fatalf("part %d: %d bytes", i, x.node.size())
		}
		want := []byte("low")
		if i > 0 {
			want = n.entries[at].key
			if fit(l[i-1].node.size(), x.node.size(), x.key, n.level) {
				t.Fatalf("part %d fits the one ahead", i)
			}
		}
		if !bytes.Equal(x.key, want) {
			t.Fatalf("part %d: key %q, want %q", i, x.key, want)
		}
		for k, y := range x.node.entries {
			isFirst := n.level > 0 && k == 0
			if isFirst != (len(y.key) == 0) || !isFirst && !bytes.Equal(y.key, n.entries[at].key) || y.page != n.entries[at].page {
				t.Fatalf("part %d, entry %d: %q", i, k, y.key)
			}
			at++
		}
	}
	if at != len(n.entries) {
		t.Fatalf("%d entries, want %d", at, len(n.entries))
	}
}

// TestNoPageIsLost: P6.2, a tree that has lost all its keys has two pages, and one level; one of few keys has few.
func TestNoPageIsLost(t *testing.T) {
	r := rand.New(rand.NewSource(1))
	_, x := newTree(t)
	for round := range 12 {
		many := []int{1, 7, api.MaxChanges}[round%3]
		count := 150 + 10*round
		for n := 0; n < count; {
			var l []Change
			for ; n < count && len(l) < many; n++ {
				l = append(l, Change{Key: key(n * 37 % count), Value: text(r.Intn(401))})
			}
			do(t, x, l...)
		}
		if h := headOf(t, x); h.level < 2 || h.count != count {
			t.Fatalf("round %d: %d levels, %d keys", round, h.level, h.count)
		}
		order := r.Perm(count)
		for n := 0; n < count; {
			var l []Change
			for ; n < count && len(l) < many; n++ {
				l = append(l, Change{Key: key(order[n]), Drop: true})
			}
			do(t, x, l...)
			if h := headOf(t, x); h.used.size() > 4+3*h.count {
				t.Fatalf("round %d: %d keys lie on %d pages", round, h.count, h.used.size())
			}
		}
		if h := headOf(t, x); h.used.size() != 2 || h.level != 0 || h.count != 0 {
			t.Fatalf("round %d: without keys: %d pages, %d levels", round, h.used.size(), h.level)
		}
	}
}

// TestPagesAtTheBound: P6.2, at the bound of 2^17 bytes a tree has room to spare, in the worst shape that it can be brought to: full leaves and nearly empty ones in turn.
func TestPagesAtTheBound(t *testing.T) {
	_, x := newTree(t)
	weight := 0
	for n := range 1830 {
		x.Do(Change{Key: key(n), Value: text(71)})
		weight += api.MaxKey + 71 + 16
	}
	for n := range 1830 {
		if n%16 < 8 || n%16 == 12 {
			continue
		}
		x.Do(Change{Key: key(n), Drop: true})
		weight -= api.MaxKey + 71 + 16
	}
	do(t, x)
	if h := headOf(t, x); weight > 1<<17 || weight < 1<<17-1000 || h.used.size() > 320 || h.used.size() < 220 {
		t.Fatalf("%d bytes on %d pages", weight, h.used.size())
	}
}

// TestSheetsOfOneDo: P6.2, what one Do makes can be put at once, even if each change makes two leaves of a full one, and even if the tree is full.
func TestSheetsOfOneDo(t *testing.T) {
	_, x := newTree(t)
	n := 0
	for ; headOf(t, x).used.size() < 400; n++ {
		x.Do(Change{Key: key(10 * n), Value: text(210)})
	}
	for round := range 4 {
		var l []Change
		for i := range api.MaxChanges {
			l = append(l, Change{Key: key(10*(i*n/api.MaxChanges) + 5 + round), Value: text(api.MaxValue), Drop: round == 3})
		}
		sheets, why := edited(x.store, lastOfEach(l))
		if why == api.ErrFull && round > 0 {
			continue
		}
		if why != api.OK || len(sheets) > api.MaxBatch || round == 0 && len(sheets) < 2*api.MaxChanges {
			t.Fatalf("round %d: %d sheets, %v", round, len(sheets), why)
		}
		do(t, x, l...)
	}
}

// leaf answers a leaf of pairs with those keys.
func leaf(size int, keys ...string) *node {
	n := &node{}
	for _, k := range keys {
		n.entries = append(n.entries, entry{key: []byte(k), value: text(size)})
	}
	return n
}

// above answers a node above others, which lie on those pages.
func above(level int, first int, l ...entry) *node {
	return &node{level: level, entries: append([]entry{{page: first}}, l...)}
}

func on(page int, key string) entry { return entry{key: []byte(key), page: page} }

// laid is a tree that is laid down by hand.
type laid struct {
	name  string
	nodes []*node // on the pages from 1 on
	root  int
	head  func(h *head) // what is wrong with the head
	isOne bool
}

func laidDown() []laid {
	a, b, c := leaf(400, "a", "b"), leaf(400, "m", "n"), leaf(400, "x", "y")
	top := above(1, 1, on(2, "m"), on(3, "x"))
	return []laid{
		{name: "a whole one", nodes: []*node{a, b, c, top}, root: 4, isOne: true},
		{name: "separators between the keys", nodes: []*node{a, b, c, above(1, 1, on(2, "c"), on(3, "nn"))}, root: 4, isOne: true},
		{name: "an empty leaf alone", nodes: []*node{{}}, root: 1, isOne: true},
		{name: "leaves in another order", nodes: []*node{b, a, c, top}, root: 4},
		{name: "a key below its separator", nodes: []*node{a, leaf(400, "l", "n"), c, top}, root: 4},
		{name: "a key that is the next separator", nodes: []*node{a, leaf(400, "m", "x"), c, top}, root: 4},
		{name: "one key in two leaves", nodes: []*node{a, leaf(400, "b", "n"), c, above(1, 1, on(2, "b"), on(3, "x"))}, root: 4},
		{name: "keys of a leaf that go down", nodes: []*node{leaf(400, "b", "a"), b, c, top}, root: 4},
		{name: "one key twice in a leaf", nodes: []*node{leaf(400, "a", "a"), b, c, top}, root: 4},
		{name: "an empty key", nodes: []*node{leaf(400, "", "a"), b, c, top}, root: 4},
		{name: "a key that is too long", nodes: []*node{leaf(400, strings.Repeat("a", 41), "b"), b, c, top}, root: 4},
		{name: "a value that is too long", nodes: []*node{leaf(401, "a", "b"), b, c, top}, root: 4},
		{name: "separators that go down", nodes: []*node{a, b, c, above(1, 1, on(2, "x"), on(3, "m"))}, root: 4},
		{name: "two separators that are one", nodes: []*node{a, b, c, above(1, 1, on(2, "m"), on(3, "m"))}, root: 4},
		{name: "a first separator", nodes: []*node{a, b, c, {level: 1, entries: []entry{on(1, "a"), on(2, "m"), on(3, "x")}}}, root: 4},
		{name: "no separator", nodes: []*node{a, b, c, above(1, 1, on(2, ""), on(3, "x"))}, root: 4},
		{name: "a leaf in two places", nodes: []*node{a, b, c, above(1, 1, on(2, "m"), on(2, "x"))}, root: 4, head: func(h *head) { h.used.drop(3) }},
		{name: "a node below itself", nodes: []*node{a, b, c, above(1, 1, on(4, "m"), on(3, "x"))}, root: 4},
		{name: "the head as a leaf", nodes: []*node{a, b, c, above(1, 0, on(2, "m"), on(3, "x"))}, root: 4},
		{name: "a page that is none", nodes: []*node{a, b, c, above(1, 1, on(2, "m"), on(api.MaxPages, "x"))}, root: 4},
		{name: "a page without a node", nodes: []*node{a, b, c, above(1, 1, on(2, "m"), on(9, "x"))}, root: 4},
		{name: "an empty leaf among others", nodes: []*node{a, {}, c, top}, root: 4, head: func(h *head) { h.count = 4 }},
		{name: "leaves that fit into one", nodes: []*node{a, leaf(10, "m"), leaf(10, "x"), top}, root: 4, head: func(h *head) { h.count = 4 }},
		{name: "a root with one leaf", nodes: []*node{a, above(1, 1)}, root: 2},
		{name: "a node above others without any", nodes: []*node{{level: 1}}, root: 1},
		{name: "a leaf two levels down", nodes: []*node{a, b, c, above(2, 1, on(2, "m"), on(3, "x"))}, root: 4},
		{name: "nodes above leaves that fit into one", nodes: []*node{a, b, above(1, 1), above(1, 2), above(2, 3, on(4, "m"))}, root: 5},
		emptyBelow(),
		{name: "a count of keys that is too high", nodes: []*node{a, b, c, top}, root: 4, head: func(h *head) { h.count++ }},
		{name: "a count of keys that is too low", nodes: []*node{a, b, c, top}, root: 4, head: func(h *head) { h.count-- }},
		{name: "a page that is lost", nodes: []*node{a, b, c, top}, root: 4, head: func(h *head) { h.used.add(100) }},
		{name: "a page that is said to be free", nodes: []*node{a, b, c, top}, root: 4, head: func(h *head) { h.used.drop(2) }},
		{name: "a head's page that is said to be free", nodes: []*node{a, b, c, top}, root: 4, head: func(h *head) { h.used.drop(0) }},
		{name: "a root that is another node", nodes: []*node{a, b, c, top}, root: 4, head: func(h *head) { h.root = 2 }},
		{name: "a root on the head's page", nodes: []*node{a, b, c, top}, root: 4, head: func(h *head) { h.root = 0 }},
		{name: "a root on no page", nodes: []*node{a, b, c, top}, root: 4, head: func(h *head) { h.root = api.MaxPages }},
		{name: "a root of another level", nodes: []*node{a, b, c, top}, root: 4, head: func(h *head) { h.level = 2 }},
	}
}

// emptyBelow answers a tree of three levels with an empty leaf alone below its node, which has a full one beside it.
func emptyBelow() laid {
	l := laid{name: "an empty leaf alone below another node"}
	full := above(1, 1)
	for n := range 24 {
		l.nodes = append(l.nodes, leaf(400, string(key(2*n)), string(key(2*n+1))))
		if n > 0 {
			full.entries = append(full.entries, on(1+n, string(key(2*n))))
		}
	}
	l.nodes = append(l.nodes, &node{}, full, above(1, 25), above(2, 26, on(27, string(key(99)))))
	l.root = len(l.nodes)
	return l
}

// lay puts the tree.
func (l laid) lay(s *pages.Store) {
	var h head
	h.used.add(headPage)
	var sheets []pages.Sheet
	for i, n := range l.nodes {
		sheets = append(sheets, n.sheet(1+i))
		h.used.add(1 + i)
		if n.level == 0 {
			h.count += len(n.entries)
		}
	}
	h.root, h.level = l.root, l.nodes[l.root-1].level
	if l.head != nil {
		l.head(&h)
	}
	s.Put(append(sheets, h.sheet())...)
}

// TestCheck: P6.3, Check and Open tell a tree from what is none; all calls of a Tree below which it was laid down end.
func TestCheck(t *testing.T) {
	for _, l := range laidDown() {
		d, x := newTree(t)
		l.lay(x.store)
		y, why := Open(d)
		if l.isOne != (why == api.OK) || l.isOne != (x.Check() == api.OK) || l.isOne != (y != nil) || !l.isOne && why != api.ErrDisk {
			t.Fatalf("%s: Open: %v, Check: %v", l.name, why, x.Check())
		}
		for _, k := range []string{"", "a", "b", "m", "n", "o", "x", "z"} {
			x.Get([]byte(k))
			for range x.Range([]byte(k), nil) {
				continue
			}
			x.Do(Change{Key: []byte(k + "1"), Value: text(300)}, Change{Key: []byte("n1"), Drop: true})
			x.Do(Change{Key: []byte("a"), Drop: true}, Change{Key: []byte("m"), Drop: true}, Change{Key: []byte("y"), Drop: true})
		}
		if l.isOne && x.Check() != api.OK {
			t.Fatalf("%s: behind changes: %v", l.name, x.Check())
		}
	}
}

// TestHeads: a head is read as it was put, and not, if it has not all of its bytes, more, or another mark.
func TestHeads(t *testing.T) {
	_, x := newTree(t)
	h := head{count: 70000, root: 300, level: 3}
	h.used.add(0)
	h.used.add(511)
	x.store.Put(h.sheet())
	if got := headOf(t, x); got != h {
		t.Fatalf("%v, want %v", got, h)
	}
	whole := h.sheet().B
	size := 2 + int(whole[0])<<8 + int(whole[1])
	for i := range size {
		if i >= 2+2+len(mark) && i < size-len(h.used)-2 {
			continue // the numbers
		}
		if i >= size-len(h.used) {
			break
		}
		b := bytes.Clone(whole)
		b[i] ^= 1
		x.store.Put(pages.Sheet{N: headPage, B: b})
		if got, why := readHead(x.store); why != api.ErrDisk || got != (head{}) || x.Len() != 0 {
			t.Fatalf("byte %d: %v, %v", i, got, why)
		}
	}
}
