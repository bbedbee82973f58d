package keys_test

import (
	"math/rand"
	"testing"

	"deponent/api"
	"deponent/keys"
)

// TestOldHeadsHold: P11.3, what was signed holds, whatever epochs come behind, of its tree and of others, up to the last.
func TestOldHeadsHold(t *testing.T) {
	rnd := rand.New(rand.NewSource(114))
	r := keys.NewRing([]byte("seed"))
	var old []api.Signed
	for epoch := range api.MaxEpochs {
		for tree := range api.MaxTrees {
			mustTurn(t, r, tree, draws[rnd.Intn(len(draws))], epoch)
			old = append(old, mustSign(t, r, someHead(rnd, tree)))
		}
		for _, s := range old {
			if !r.Holds(s) {
				t.Fatalf("behind %d epochs: %+v does not hold", epoch+1, s)
			}
		}
	}
	for tree := range api.MaxTrees {
		r.Turn(tree, 0)
	}
	for _, s := range old {
		if !r.Holds(s) {
			t.Fatalf("behind a turn too much: %+v does not hold", s)
		}
	}
}

// TestTurnedHeads: P11.3, with any bit turned, in its Tag or in any field, those that are not signed too, a ring's head does not hold, though all trees have epochs.
func TestTurnedHeads(t *testing.T) {
	rnd := rand.New(rand.NewSource(115))
	one, full := keys.NewRing([]byte("seed")), keys.NewRing([]byte("seed"))
	mustTurn(t, one, 1, 5, 0)
	fill(t, full)
	for _, c := range []struct {
		ring *keys.Ring
		tree int
	}{{one, 1}, {full, 0}, {full, 1}, {full, 15}} {
		for range 3 {
			s := mustSign(t, c.ring, someHead(rnd, c.tree))
			for field, l := range turned(s) {
				for i, x := range l {
					if c.ring.Holds(x) {
						t.Fatalf("%+v, bit %d of %s turned: it holds", s, i, field)
					}
				}
			}
			if !c.ring.Holds(s) {
				t.Fatalf("%+v does not hold", s)
			}
		}
	}
}

// TestOthersHeads: P11.3, what another tree, another epoch, or another ring with another seed or another draw has signed does not hold as one's own.
func TestOthersHeads(t *testing.T) {
	r, twin := keys.NewRing([]byte("seed")), keys.NewRing([]byte("seed"))
	seed, draw := keys.NewRing([]byte("seee")), keys.NewRing([]byte("seed"))
	for tree := range api.MaxTrees {
		for epoch := range 3 {
			mustTurn(t, r, tree, 8, epoch)
			mustTurn(t, twin, tree, 8, epoch)
			mustTurn(t, seed, tree, 8, epoch)
			mustTurn(t, draw, tree, 9, epoch)
		}
	}
	for tree := range api.MaxTrees {
		h := api.Head{Tree: tree, Size: 3, Clock: 4, Root: api.Digest{5}}
		s := mustSign(t, r, h)
		if !r.Holds(s) || !twin.Holds(s) || s != mustSign(t, twin, h) {
			t.Errorf("%+v does not hold", s)
		}
		if seed.Holds(s) || r.Holds(mustSign(t, seed, h)) {
			t.Errorf("tree %d: another seed's holds", tree)
		}
		if draw.Holds(s) || r.Holds(mustSign(t, draw, h)) {
			t.Errorf("tree %d: another draw's holds", tree)
		}
		for other := range api.MaxTrees {
			for epoch := range 3 {
				x := s
				x.Head.Tree, x.Head.Epoch = other, epoch
				if r.Holds(x) != (other == tree && epoch == 2) {
					t.Errorf("the tag of tree %d, epoch 2, for tree %d, epoch %d", tree, other, epoch)
				}
				x.Tag = keys.Sign(keys.Key([]byte("seed"), tree, 2, 8), x.Head).Tag
				if r.Holds(x) != (other == tree && epoch == 2) {
					t.Errorf("signed by the key of tree %d, epoch 2, for tree %d, epoch %d", tree, other, epoch)
				}
			}
		}
	}
}

// TestSeedsOneBitApart: rings whose seeds have one bit turned don't take one another's heads; those of 65 bytes too.
func TestSeedsOneBitApart(t *testing.T) {
	for _, seed := range seeds() {
		r := keys.NewRing(seed)
		mustTurn(t, r, 3, 1, 0)
		s := mustSign(t, r, api.Head{Tree: 3})
		for i := range 8 * len(seed) {
			other := append([]byte{}, seed...)
			other[i/8] ^= 1 << (i % 8)
			x := keys.NewRing(other)
			mustTurn(t, x, 3, 1, 0)
			if x.Holds(s) || r.Holds(mustSign(t, x, api.Head{Tree: 3})) {
				t.Fatalf("a seed of %d bytes: bit %d makes no difference", len(seed), i)
			}
		}
	}
}

// TestRingHoldsOfNothing: tags that no one has reckoned.
func TestRingHoldsOfNothing(t *testing.T) {
	r := keys.NewRing(nil)
	fill(t, r)
	for _, h := range heads() {
		for _, tag := range roots() {
			if r.Holds(api.Signed{Head: h, Tag: tag}) {
				t.Errorf("%x holds of %+v", tag, h)
			}
		}
	}
	if r.Holds(api.Signed{}) {
		t.Error("nothing at all holds")
	}
}
