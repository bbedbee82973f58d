package btree

import (
	"math/bits"

	"deponent/api"
	"deponent/codec"
	"deponent/pages"
)

const (
	headPage = 0
	mark     = "keys in order" // tells a head from what something else has put
)

// head is what a Tree must know ahead of the nodes. It is put with them, so that it is always theirs.
type head struct {
	count int // keys
	root  int // page
	level int // of the root
	used  set // the pages of the tree, the head's among them
}

// firstHead answers the head of a tree without keys.
func firstHead() head {
	h := head{root: headPage + 1}
	h.used.add(headPage)
	h.used.add(h.root)
	return h
}

func (h head) sheet() pages.Sheet {
	w := codec.NewWriter()
	w.Bytes([]byte(mark))
	w.Number(uint64(h.count), 4)
	w.Number(uint64(h.root), 2)
	w.Number(uint64(h.level), 1)
	w.Bytes(h.used[:])
	return sheetOf(headPage, w.Done())
}

// readHead answers the head; ErrDisk, if there is none.
func readHead(s *pages.Store) (head, api.Errno) {
	r, why := readSheet(s, headPage)
	if why != api.OK {
		return head{}, why
	}
	isMarked := string(r.Bytes(len(mark))) == mark
	h := head{count: int(r.Number(4)), root: int(r.Number(2)), level: int(r.Number(1))}
	copy(h.used[:], r.Bytes(len(h.used)))
	if r.End() != nil || !isMarked || h.root == headPage {
		return head{}, api.ErrDisk
	}
	return h, api.OK
}

// sheetOf answers the sheet of a page that is less than filled by text.
func sheetOf(page int, text []byte) pages.Sheet {
	w := codec.NewWriter()
	w.Bytes(text)
	b := make([]byte, api.Page)
	copy(b, w.Done())
	return pages.Sheet{N: page, B: b}
}

// readSheet answers a Reader of the text of such a page: of no bytes, if it has none.
func readSheet(s *pages.Store, page int) (*codec.Reader, api.Errno) {
	b, why := s.Read(page)
	if why != api.OK {
		return nil, api.ErrDisk
	}
	return codec.NewReader(codec.NewReader(b).Bytes(api.Page)), api.OK
}

// set is a set of pages, with a bit for each of them.
type set [api.MaxPages / 8]byte

func (s *set) add(page int) { s[page/8] |= 1 << (page % 8) }

func (s *set) drop(page int) { s[page/8] &^= 1 << (page % 8) }

// free answers the first page that is not in the set; false, if all are.
func (s *set) free() (int, bool) {
	for i, b := range s {
		if b != 0xff {
			return 8*i + bits.TrailingZeros8(^b), true
		}
	}
	return 0, false
}
