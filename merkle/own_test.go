package merkle_test

import (
	"bytes"
	"fmt"
	"slices"
	"testing"

	"deponent/api"
	"deponent/merkle"
)

// handed is a list with room behind it and behind each leaf, all of it in memory that can be looked at.
type handed struct {
	list, whole [][]byte
	room        []byte
}

// lengthAt is 0 at times, and at times reaches into the next leaf.
func lengthAt(i int) int { return (i + 1) % 10 }

// handedOf answers n leaves, that lie one behind the other in one piece of memory, so that whoever writes behind one changes the next one.
func handedOf(n int) handed {
	room := bytes.Repeat([]byte("0123456789abcdef"), n+10)
	whole := make([][]byte, n+5)
	for i := range whole {
		whole[i] = room[7*i : 7*i+lengthAt(i)]
	}
	return handed{list: whole[:n], whole: whole, room: room}
}

// is tells whether h is what other is, its spare room too, and still lies in the memory that it lay in.
func (h handed) is(other handed) bool {
	if !bytes.Equal(h.room, other.room) || len(h.whole) != len(other.whole) {
		return false
	}
	for i, b := range h.whole {
		if len(b) != lengthAt(i) || cap(b) != cap(h.room)-7*i || &b[:1][0] != &h.room[7*i] {
			return false
		}
	}
	return true
}

// spoil changes all that h has.
func (h handed) spoil() {
	for i := range h.room {
		h.room[i] ^= 0xa5
	}
	for i := range h.whole {
		h.whole[i] = h.room[:1+i%3]
	}
}

// answers tells all that the calls answer of a list at a width, the refusals too.
func answers(width int, l [][]byte) string {
	told := fmt.Sprintf("%x\n", merkle.Root(width, l))
	for i := range uint64(len(l) + 3) {
		p, why := merkle.Prove(width, l, i)
		told += fmt.Sprintf("%d: %x %d\n", i, p, why)
		p, why = merkle.Compare(width, l, i)
		told += fmt.Sprintf("%d: %x %d\n", i, p, why)
	}
	for _, b := range l {
		told += fmt.Sprintf("%x\n", merkle.Leaf(width, b))
	}
	return told
}

// TestHandedInIsLeft: R2, no call changes the list, its leaves, nor the room behind them, be it done or refused.
func TestHandedInIsLeft(t *testing.T) {
	for _, n := range []int{0, 1, 2, 3, 4, 5, 8, 9, 30} {
		for _, w := range edgeWidths {
			h := handedOf(n)
			answers(w, h.list)
			if !h.is(handedOf(n)) {
				t.Fatalf("%d leaves, width %d: what was handed in was changed", n, w)
			}
		}
	}
}

// TestHandedInIsNotKept: R2 and R4, what is handed in may be changed behind a call: neither what was answered nor later answers hang on what it was, nor on where it lies, nor on its room.
func TestHandedInIsNotKept(t *testing.T) {
	for _, n := range []int{1, 2, 3, 4, 7, 8, 9, 30} {
		h, twin := handedOf(n), handedOf(n)
		var tight [][]byte
		for _, b := range twin.list {
			tight = append(tight, slices.Clip(slices.Clone(b)))
		}
		want := answers(32, h.list)
		if answers(32, slices.Clip(tight)) != want {
			t.Fatalf("%d leaves: without room behind them the answers are others", n)
		}
		p, _ := merkle.Prove(32, h.list, uint64(n/2))
		q, _ := merkle.Compare(32, h.list, uint64(n/2+1))
		was := fmt.Sprintf("%x %x", p, q)
		h.spoil()
		if fmt.Sprintf("%x %x", p, q) != was {
			t.Fatalf("%d leaves: spoilt, what was answered is another", n)
		}
		if answers(32, h.list) == want || answers(32, twin.list) != want {
			t.Fatalf("%d leaves: an answer hangs on an earlier call", n)
		}
	}
}

// TestAnsweredIsNew: R2, an answer is memory of its own, its spare room too: changed, neither what was handed in nor another answer is.
func TestAnsweredIsNew(t *testing.T) {
	calls := []func([][]byte, uint64) ([]api.Digest, api.Errno){
		func(l [][]byte, n uint64) ([]api.Digest, api.Errno) { return merkle.Prove(32, l, n) },
		func(l [][]byte, n uint64) ([]api.Digest, api.Errno) { return merkle.Compare(32, l, n+1) },
	}
	for _, n := range []int{1, 2, 3, 5, 8, 30} {
		for at := range uint64(n) {
			for _, call := range calls {
				h := handedOf(n)
				first, _ := call(h.list, at)
				second, _ := call(h.list, at)
				was := slices.Clone(second)
				room := first[:cap(first)]
				for i := range room {
					room[i] = api.Digest{0xa5, 0xa5}
				}
				third, why := call(h.list, at)
				if !h.is(handedOf(n)) || !slices.Equal(second, was) || !slices.Equal(third, was) || why != api.OK {
					t.Fatalf("%d of %d: what was answered shares memory", at, n)
				}
			}
		}
	}
}

// TestRefusedChangesNothing: R3, behind refused calls all answers are what they were.
func TestRefusedChangesNothing(t *testing.T) {
	for _, n := range []int{0, 1, 2, 5, 8} {
		l := listOf(n)
		want := answers(32, l)
		for _, far := range append([]uint64{uint64(n) + 1}, farIndices...) {
			for _, w := range edgeWidths {
				merkle.Prove(w, l, far)
				merkle.Compare(w, l, far)
				merkle.Compare(w, l, 0)
			}
		}
		if answers(32, l) != want {
			t.Errorf("%d leaves: the answers are others behind refusals", n)
		}
	}
}

// TestAliasedLeaves: R2, one leaf that stands at several places, and leaves that lie over one another, are leaves like others.
func TestAliasedLeaves(t *testing.T) {
	room := []byte("abcdefgh")
	shared := [][]byte{room, room, room[1:], room[:0], room[:3], room, room[2:4]}
	var apart [][]byte
	for _, b := range shared {
		apart = append(apart, bytes.Clone(b))
	}
	for _, w := range edgeWidths {
		if answers(w, shared) != answers(w, apart) {
			t.Errorf("width %d: leaves that share memory have other answers", w)
		}
	}
	if string(room) != "abcdefgh" {
		t.Errorf("what was handed in was changed: %s", room)
	}
}
