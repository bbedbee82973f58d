package wal

import (
	"bytes"

	"deponent/api"
	"deponent/codec"
	"deponent/sha"
)

const half = api.Sector / 2

// head tells which records there are.
type head struct {
	used int        // bytes of the text
	seal api.Digest // of the records, so that a text that something else has written to is found out
}

// sight is what a sector of a head was met as.
type sight int

const (
	alien sight = iota // no log has left it so
	torn
	whole
)

// headSector answers the sector of h: both halves are the same, since of a sector that is torn they differ.
func (a area) headSector(place int, h head) []byte {
	w := codec.NewWriter()
	w.Number(uint64(h.used), lengthSize)
	w.Digest(h.seal)
	b := make([]byte, half)
	copy(b, sha.Join(a.tag(place), w.Done()))
	return sha.Join(b, b)
}

// keepHead makes h the head at place, safe.
func (a area) keepHead(place int, h head) api.Errno {
	return a.keep(place, a.headSector(place, h))
}

// headAt answers the head at place, if it is whole.
func (a area) headAt(place int) (head, sight) {
	b := a.read(place)
	tag := a.tag(place)
	r := codec.NewReader(b[tagSize:])
	h := head{used: int(r.Number(lengthSize))}
	h.seal = r.Digest()
	switch {
	case bytes.Equal(b, a.headSector(place, h)):
		return h, whole
	case bytes.HasPrefix(b, tag) && bytes.HasPrefix(b[half:], tag):
		return head{}, torn
	}
	return head{}, alien
}

// current answers the head that holds, and whether the back head must be brought up to it; false, if there is no log.
func (a area) current() (h head, behind, ok bool) {
	front, metFront := a.headAt(frontHead)
	back, metBack := a.headAt(backHead)
	switch {
	case metFront == alien || metBack == alien || metFront == torn && metBack == torn:
		return head{}, false, false
	case metFront == torn:
		// The back head is not written till the front one is whole.
		return back, false, true
	case metBack == torn || back != front:
		behind = true
		fallthrough
	default:
		return front, behind, true
	}
}

// sealing tells whether a text is one of records, with that seal.
func sealing(text []byte, seal api.Digest) bool {
	list, ok := split(text)
	var all api.Digest
	for _, b := range list {
		all = sealed(all, b)
	}
	return ok && all == seal
}

// sealed answers the seal of a log with one record more.
func sealed(seal api.Digest, b []byte) api.Digest {
	return sha.Sum(sha.Join(seal[:], b))
}
