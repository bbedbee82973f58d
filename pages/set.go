package pages

import (
	"math/bits"
	"slices"

	"deponent/api"
)

// set is a set of pages as a record of the log, with a bit for each of them. The k-th of its pages, in order, has the k-th sheet.
type set [api.MaxPages / 8]byte

// setOf answers the set of those sheets' pages.
func setOf(l []Sheet) set {
	var s set
	for _, x := range l {
		s[x.N/8] |= 1 << (x.N % 8)
	}
	return s
}

// setIn answers the set that the records of a log tell; false, if no Put has left them.
func setIn(records [][]byte) (set, bool) {
	var s set
	switch {
	case len(records) == 0:
		return s, true
	case len(records) > 1 || len(records[0]) != len(s):
		return s, false
	}
	copy(s[:], records[0])
	size := s.size()
	return s, size > 0 && size <= api.MaxBatch
}

func (s set) size() int {
	n := 0
	for _, b := range s {
		n += bits.OnesCount8(b)
	}
	return n
}

func (s set) has(n int) bool { return s[n/8]>>(n%8)&1 == 1 }

// pages answers the pages of the set, in order.
func (s set) pages() []int {
	var l []int
	for n := range api.MaxPages {
		if s.has(n) {
			l = append(l, n)
		}
	}
	return l
}

// rank answers how many pages of the set there are ahead of n.
func (s set) rank(n int) int { return slices.Index(s.pages(), n) }
