package wal

import (
	"bytes"

	"deponent/api"
	"deponent/codec"
	"deponent/sha"
)

// A mark stands at both ends of a head's sector, behind its tag and in its last byte. A head is written only over a sector that is blank, and safe; over anything else a blank one goes first. So whatever crashes leave torn there, however many come one behind the other, has the mark of a blank sector at one end at least. (A Format begins with noughts, that have no tag.)
const (
	blankMark = 0x0f
	wholeMark = 0xf0
	firstMark = tagSize
	lastMark  = api.Sector - 1
	turnSize  = 8
)

// head tells which records there are.
type head struct {
	turn uint64     // how many heads came ahead of it
	used int        // bytes of the text
	seal api.Digest // of the records, so that a text that something else has written to is found out
}

// next answers the head behind h, of that text.
func (h head) next(used int, seal api.Digest) head {
	return head{turn: h.turn + 1, used: used, seal: seal}
}

// sight is what a sector of a head was met as.
type sight int

const (
	alien  sight = iota // no log has left it so
	broken              // blank, or torn
	whole
)

// marked answers the sector of a head with that mark at both ends.
func (a area) marked(place int, mark byte, text []byte) []byte {
	b := make([]byte, api.Sector)
	copy(b, a.tag(place))
	copy(b[firstMark+1:lastMark], text)
	b[firstMark], b[lastMark] = mark, mark
	return b
}

func (a area) blank(place int) []byte { return a.marked(place, blankMark, nil) }

// headSector answers the sector of h. Its sum is not there for crashes: it finds out what something else has written.
func (a area) headSector(place int, h head) []byte {
	w := codec.NewWriter()
	w.Number(h.turn, turnSize)
	w.Number(uint64(h.used), lengthSize)
	w.Digest(h.seal)
	w.Digest(sha.Sum(w.Done()))
	return a.marked(place, wholeMark, w.Done())
}

// headAt answers the head at place, if it is whole.
func (a area) headAt(place int) (head, sight) {
	b := a.read(place)
	first, last := b[firstMark], b[lastMark]
	switch {
	case !bytes.HasPrefix(b, a.tag(place)) || !isMark(first) || !isMark(last):
		return head{}, alien
	case first == blankMark || last == blankMark:
		return head{}, broken
	}
	h := headIn(b[firstMark+1:])
	if !bytes.Equal(b, a.headSector(place, h)) {
		return head{}, alien
	}
	return h, whole
}

func isMark(b byte) bool { return b == blankMark || b == wholeMark }

// headIn answers the head that b begins with.
func headIn(b []byte) head {
	r := codec.NewReader(b)
	h := head{turn: r.Number(turnSize)}
	h.used = int(r.Number(lengthSize))
	h.seal = r.Digest()
	return h
}

// other answers the place of the head that is not at place.
func other(place int) int { return frontHead + backHead - place }

// current answers the head that holds, and its place; false, if there is no log.
func (a area) current() (h head, place int, ok bool) {
	h, met := a.headAt(frontHead)
	back, metBack := a.headAt(backHead)
	place = frontHead
	switch {
	case holds(back, metBack, h, met):
		h, place = back, backHead
		fallthrough
	case holds(h, met, back, metBack):
		return h, place, true
	}
	return head{}, 0, false
}

// holds tells whether h is the head that holds: the one beside it is none, or was ahead of it and a call that was stopped has not made it blank.
func holds(h head, met sight, beside head, metBeside sight) bool {
	return met == whole && (metBeside == broken || metBeside == whole && beside.turn+1 == h.turn)
}

// sealing tells whether a text is one of records, with that seal.
func sealing(text []byte, seal api.Digest) bool {
	list, ok := split(text)
	var all api.Digest
	for _, b := range list {
		all = sealed(all, b)
	}
	return ok && all == seal
}

// sealed answers the seal of a log with one record more.
func sealed(seal api.Digest, b []byte) api.Digest {
	return sha.Sum(sha.Join(seal[:], b))
}
