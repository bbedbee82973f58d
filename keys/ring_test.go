package keys_test

import (
	"math"
	"math/rand"
	"slices"
	"testing"

	"deponent/api"
	"deponent/keys"
)

// TestNoEpochs: P11.2, at first no tree has an epoch.
func TestNoEpochs(t *testing.T) {
	for _, seed := range seeds() {
		r := keys.NewRing(seed)
		if r == nil {
			t.Fatalf("no ring of a seed of %d bytes", len(seed))
		}
		for tree := range api.MaxTrees {
			wantEpoch(t, r, tree, -1)
			wantNoHead(t, r, api.Head{Tree: tree}, api.ErrNone)
			wantNoHead(t, r, api.Head{Tree: tree, Epoch: 3, Size: 4, Clock: 5, Root: api.Digest{6}}, api.ErrNone)
			if r.Holds(keys.Sign(keys.Key(seed, tree, 0, 0), api.Head{Tree: tree})) || r.Holds(keys.Sign(api.Digest{}, api.Head{Tree: tree})) {
				t.Fatalf("tree %d has an epoch", tree)
			}
		}
	}
}

// TestEpochs: P11.2, of each tree, seed and draw: epochs from 0 up to the last that is allowed, and one turn past it.
func TestEpochs(t *testing.T) {
	for i, seed := range seeds() {
		r := keys.NewRing(seed)
		for tree := range api.MaxTrees {
			for epoch := range api.MaxEpochs {
				draw := draws[(i+tree+epoch)%len(draws)]
				mustTurn(t, r, tree, draw, epoch)
				wantEpoch(t, r, tree, epoch)
				h := api.Head{Tree: tree, Epoch: epoch, Size: uint64(epoch), Clock: math.MaxUint64}
				s := mustSign(t, r, h)
				if want := wantedSigned(wantedKey(seed, tree, epoch, draw), h); s != want || !r.Holds(s) {
					t.Fatalf("tree %d, epoch %d: %+v, not %+v", tree, epoch, s, want)
				}
			}
			for _, draw := range draws {
				if n, why := r.Turn(tree, draw); n != 0 || why != api.ErrMany {
					t.Fatalf("one turn past the last of tree %d: %d, %v", tree, n, why)
				}
			}
			wantEpoch(t, r, tree, api.MaxEpochs-1)
			if tree+1 < api.MaxTrees {
				wantEpoch(t, r, tree+1, -1)
			}
		}
	}
}

// TestOneSignsForTheLast: P11.2, a head is signed in the last epoch, whichever Epoch it came with, and else is left as it is.
func TestOneSignsForTheLast(t *testing.T) {
	seed := []byte("seed")
	r := keys.NewRing(seed)
	for epoch := range 3 {
		mustTurn(t, r, 4, 70, epoch)
		for _, h := range heads() {
			h.Tree = 4
			got := mustSign(t, r, h)
			h.Epoch = epoch
			if want := wantedSigned(wantedKey(seed, 4, epoch, 70), h); got != want || !r.Holds(got) {
				t.Fatalf("epoch %d: %+v, not %+v", epoch, got, want)
			}
		}
	}
}

// fill gives each tree all the epochs that it may have.
func fill(t *testing.T, r *keys.Ring) {
	t.Helper()
	for tree := range api.MaxTrees {
		for epoch := range api.MaxEpochs {
			mustTurn(t, r, tree, 0, epoch)
		}
	}
}

// TestNoTree: P11.2, what is no tree is ErrArg, be there no epochs, some, or as many as may be: ErrArg comes ahead of ErrNone and of ErrMany.
func TestNoTree(t *testing.T) {
	seed := []byte("seed")
	none, some, full := keys.NewRing(seed), keys.NewRing(seed), keys.NewRing(seed)
	for tree := range api.MaxTrees {
		mustTurn(t, some, tree, 0, 0)
	}
	fill(t, full)
	for name, r := range map[string]*keys.Ring{"none": none, "some": some, "full": full} {
		for _, tree := range noTrees {
			for _, draw := range draws {
				if n, why := r.Turn(tree, draw); n != 0 || why != api.ErrArg {
					t.Errorf("%s: Turn(%d, %d): %d, %v", name, tree, draw, n, why)
				}
			}
			wantEpoch(t, r, tree, -1)
			for _, epoch := range numbers {
				h := api.Head{Tree: tree, Epoch: epoch, Size: 3}
				wantNoHead(t, r, h, api.ErrArg)
				if r.Holds(keys.Sign(keys.Key(seed, tree, epoch, 0), h)) || r.Holds(api.Signed{Head: h}) {
					t.Errorf("%s: a head of tree %d, epoch %d, holds", name, tree, epoch)
				}
			}
		}
	}
}

// TestNoEpochThere: P11.2, a head of an epoch that is not there does not hold, though it is signed by the key that the epoch would have.
func TestNoEpochThere(t *testing.T) {
	seed := []byte("seed")
	for there := range api.MaxEpochs + 1 {
		r := keys.NewRing(seed)
		for epoch := range there {
			mustTurn(t, r, 5, 0, epoch)
		}
		epochs := slices.Clone(numbers)
		for epoch := -40; epoch < 80; epoch++ {
			epochs = append(epochs, epoch)
		}
		for _, epoch := range epochs {
			s := keys.Sign(keys.Key(seed, 5, epoch, 0), api.Head{Tree: 5, Epoch: epoch})
			if want := epoch >= 0 && epoch < there; r.Holds(s) != want {
				t.Fatalf("%d epochs: epoch %d: %v", there, epoch, !want)
			}
		}
	}
}

// TestNotYetThere: P11.2, it holds as soon as the epoch is there, if its draw is that one.
func TestNotYetThere(t *testing.T) {
	seed := []byte("seed")
	r := keys.NewRing(seed)
	s := keys.Sign(keys.Key(seed, 5, 1, 9), api.Head{Tree: 5, Epoch: 1, Size: 8})
	for epoch, draw := range []uint32{9, 9, 10} {
		if r.Holds(s) != (epoch > 1) {
			t.Errorf("ahead of epoch %d: %v", epoch, epoch <= 1)
		}
		mustTurn(t, r, 5, draw, epoch)
	}
	other := keys.NewRing(seed)
	mustTurn(t, other, 5, 9, 0)
	mustTurn(t, other, 5, 10, 1)
	if other.Holds(s) {
		t.Error("it holds with another draw")
	}
}

// TestTreesStandApart: P11.2, a turn of one tree changes no other.
func TestTreesStandApart(t *testing.T) {
	for tree := range api.MaxTrees {
		r := keys.NewRing(nil)
		mustTurn(t, r, tree, 3, 0)
		mustTurn(t, r, tree, 3, 1)
		for other := range api.MaxTrees {
			if other == tree {
				wantEpoch(t, r, other, 1)
				continue
			}
			wantEpoch(t, r, other, -1)
			wantNoHead(t, r, api.Head{Tree: other}, api.ErrNone)
		}
	}
}

// TestRingsStandApart: a turn in one ring changes no other one, of the same seed or not.
func TestRingsStandApart(t *testing.T) {
	seed := []byte("seed")
	a, b, c := keys.NewRing(seed), keys.NewRing(seed), keys.NewRing([]byte("other"))
	mustTurn(t, a, 1, 5, 0)
	wantEpoch(t, b, 1, -1)
	wantEpoch(t, c, 1, -1)
	mustTurn(t, b, 1, 6, 0)
	mustTurn(t, c, 1, 5, 0)
	mustTurn(t, a, 1, 7, 1)
	for i, r := range []*keys.Ring{a, b, c} {
		want := []api.Digest{wantedKey(seed, 1, 1, 7), wantedKey(seed, 1, 0, 6), wantedKey([]byte("other"), 1, 0, 5)}[i]
		if s := mustSign(t, r, api.Head{Tree: 1}); s != wantedSigned(want, s.Head) {
			t.Errorf("ring %d: %+v", i, s)
		}
	}
}

// TestRefusedChangesNothing: R3, a ring to which refused calls were made goes on like one to which none were.
func TestRefusedChangesNothing(t *testing.T) {
	seed := []byte("seed")
	plain, asked := keys.NewRing(seed), keys.NewRing(seed)
	rnd := rand.New(rand.NewSource(113))
	refuse := func() {
		for _, tree := range noTrees {
			asked.Turn(tree, rnd.Uint32())
			asked.Sign(api.Head{Tree: tree, Epoch: 1})
			asked.Epoch(tree)
			asked.Holds(api.Signed{Head: api.Head{Tree: tree}})
		}
		for tree := range api.MaxTrees {
			if _, ok := asked.Epoch(tree); !ok {
				wantNoHead(t, asked, api.Head{Tree: tree}, api.ErrNone)
			}
			if n, _ := asked.Epoch(tree); n == api.MaxEpochs-1 {
				asked.Turn(tree, rnd.Uint32())
			}
		}
	}
	for epoch := range api.MaxEpochs {
		for _, tree := range []int{0, 7, 15} {
			refuse()
			draw := rnd.Uint32()
			mustTurn(t, plain, tree, draw, epoch)
			mustTurn(t, asked, tree, draw, epoch)
			refuse()
			h := someHead(rnd, tree)
			if s := mustSign(t, asked, h); s != mustSign(t, plain, h) || !plain.Holds(s) || !asked.Holds(s) {
				t.Fatalf("tree %d, epoch %d: %+v", tree, epoch, s)
			}
		}
	}
}
