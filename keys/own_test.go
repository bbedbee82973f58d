package keys_test

import (
	"bytes"
	"math/rand"
	"testing"

	"deponent/api"
	"deponent/keys"
)

// roomy is b with room behind it, and the whole of its memory.
func roomy(b []byte) (list, whole []byte) {
	whole = append(bytes.Clone(b), bytes.Repeat([]byte{0xa5}, 150)...)
	return whole[:len(b)], whole
}

// spoil changes all of a list, its spare room too.
func spoil(b []byte) {
	b = b[:cap(b)]
	for i := range b {
		b[i] ^= 0x77
	}
}

// TestSeedIsLeft: R2, no call changes a seed, nor the room behind it; nor do answers hang on that room.
func TestSeedIsLeft(t *testing.T) {
	for _, tight := range seeds() {
		seed, whole := roomy(tight)
		was := bytes.Clone(whole)
		if keys.Key(seed, 1, 2, 3) != wantedKey(tight, 1, 2, 3) {
			t.Errorf("a seed of %d bytes: Key hangs on room", len(tight))
		}
		r := keys.NewRing(seed)
		for epoch := range api.MaxEpochs {
			mustTurn(t, r, 1, 3, epoch)
			s := mustSign(t, r, api.Head{Tree: 1})
			if s != wantedSigned(wantedKey(tight, 1, epoch, 3), s.Head) || !r.Holds(s) {
				t.Errorf("a seed of %d bytes: a ring hangs on room", len(tight))
			}
		}
		if !bytes.Equal(whole, was) {
			t.Errorf("a seed of %d bytes was changed", len(tight))
		}
	}
}

// TestSeedIsNotKept: R2, a seed that is changed afterwards changes no ring: neither epochs that are there, nor those that come.
func TestSeedIsNotKept(t *testing.T) {
	for _, tight := range seeds() {
		seed, whole := roomy(tight)
		r := keys.NewRing(seed)
		for epoch := range 4 {
			spoil(whole)
			mustTurn(t, r, 2, 3, epoch)
			s := mustSign(t, r, api.Head{Tree: 2})
			if s != wantedSigned(wantedKey(tight, 2, epoch, 3), s.Head) {
				t.Fatalf("a seed of %d bytes: epoch %d hangs on what was handed in", len(tight), epoch)
			}
			clear(whole)
			if !r.Holds(s) || s != mustSign(t, r, s.Head) {
				t.Fatalf("a seed of %d bytes: an epoch that was there hangs on what was handed in", len(tight))
			}
		}
	}
}

// TestAnswersAreNew: R2, bytes that were answered are memory of their own, their spare room too.
func TestAnswersAreNew(t *testing.T) {
	for _, h := range heads() {
		first, second := keys.Bytes(h), keys.Bytes(h)
		spoil(first)
		if want := wantedBytes(h); !bytes.Equal(second, want) || !bytes.Equal(keys.Bytes(h), want) || !keys.Holds(api.Digest{1}, wantedSigned(api.Digest{1}, h)) {
			t.Fatalf("%+v: answers share memory", h)
		}
	}
}

// TestAnswersChanged: R2, a ring answers as before, whatever is done to what it has answered.
func TestAnswersChanged(t *testing.T) {
	rnd := rand.New(rand.NewSource(117))
	seed := []byte("seed")
	r := keys.NewRing(seed)
	for epoch := range api.MaxEpochs {
		mustTurn(t, r, 1, 3, epoch)
		h := someHead(rnd, 1)
		s := mustSign(t, r, h)
		was := s
		spoil(s.Tag[:])
		spoil(s.Head.Root[:])
		s.Head.Tree, s.Head.Epoch, s.Head.Size = 2, 3, 4
		spoil(keys.Bytes(was.Head))
		if again := mustSign(t, r, h); again != was || !r.Holds(was) || r.Holds(s) || was != wantedSigned(wantedKey(seed, 1, epoch, 3), was.Head) {
			t.Fatalf("epoch %d: %+v, not %+v", epoch, again, was)
		}
		wantEpoch(t, r, 1, epoch)
		wantEpoch(t, r, 2, -1)
	}
}

// TestNilIsEmpty: R4, a nil seed and an empty one mean the same.
func TestNilIsEmpty(t *testing.T) {
	room := []byte("room")[:0]
	for _, seed := range [][]byte{{}, room} {
		a, b := keys.NewRing(nil), keys.NewRing(seed)
		mustTurn(t, a, 1, 2, 0)
		mustTurn(t, b, 1, 2, 0)
		s := mustSign(t, a, api.Head{Tree: 1})
		if s != mustSign(t, b, api.Head{Tree: 1}) || !b.Holds(s) || keys.Key(nil, 1, 0, 2) != keys.Key(seed, 1, 0, 2) {
			t.Error("a nil seed is not like an empty one")
		}
	}
}

// TestAskedAgain: R4, what is asked twice is answered alike: asking changes nothing.
func TestAskedAgain(t *testing.T) {
	rnd := rand.New(rand.NewSource(118))
	r := keys.NewRing([]byte("seed"))
	for epoch := range 5 {
		mustTurn(t, r, 9, rnd.Uint32(), epoch)
		h := someHead(rnd, 9)
		s := mustSign(t, r, h)
		for range 3 {
			wantEpoch(t, r, 9, epoch)
			if mustSign(t, r, h) != s || !r.Holds(s) || keys.Key([]byte("k"), 9, epoch, 1) != wantedKey([]byte("k"), 9, epoch, 1) {
				t.Fatalf("epoch %d: answered otherwise", epoch)
			}
		}
	}
}
