package keys_test

import (
	"math/rand"
	"slices"
	"testing"

	"deponent/api"
	"deponent/keys"
)

// book is a ring by the words of the chapter: it has the draws alone, and reckons keys by the library's HMAC when it is asked.
type book struct {
	seed  []byte
	draws map[int][]uint32
}

func (b book) turn(tree int, draw uint32) (int, api.Errno) {
	switch n := len(b.draws[tree]); {
	case tree < 0, tree > 15:
		return 0, api.ErrArg
	case n == 32:
		return 0, api.ErrMany
	default:
		b.draws[tree] = append(b.draws[tree], draw)
		return n, api.OK
	}
}

func (b book) epoch(tree int) (int, bool) {
	n := len(b.draws[tree])
	return max(n-1, 0), n > 0
}

func (b book) sign(h api.Head) (api.Signed, api.Errno) {
	n, ok := b.epoch(h.Tree)
	switch {
	case h.Tree < 0, h.Tree > 15:
		return api.Signed{}, api.ErrArg
	case !ok:
		return api.Signed{}, api.ErrNone
	}
	h.Epoch = n
	return wantedSigned(wantedKey(b.seed, h.Tree, n, b.draws[h.Tree][n]), h), api.OK
}

func (b book) holds(s api.Signed) bool {
	for n, draw := range b.draws[s.Head.Tree] {
		if n == s.Head.Epoch {
			return s == wantedSigned(wantedKey(b.seed, s.Head.Tree, n, draw), s.Head)
		}
	}
	return false
}

// someTree is one of few, so that they come to all their epochs, or of any, or none.
func someTree(r *rand.Rand) int {
	switch r.Intn(8) {
	case 0:
		return pick(r, noTrees)
	case 1, 2:
		return r.Intn(api.MaxTrees)
	}
	return pick(r, []int{0, 3, 15})
}

// someChange turns nothing, or something, of a signed head.
func someChange(r *rand.Rand, s api.Signed) api.Signed {
	switch r.Intn(10) {
	case 0:
		s.Head.Tree = someTree(r)
	case 1:
		s.Head.Epoch = r.Intn(40) - 4
	case 2:
		s.Head.Epoch = pick(r, numbers)
	case 3:
		s.Head.Size++
	case 4:
		s.Head.Clock--
	case 5:
		s.Head.Root[r.Intn(32)] ^= 1 << r.Intn(8)
	case 6:
		s.Tag[r.Intn(32)] ^= 1 << r.Intn(8)
	}
	return s
}

// TestChains: P11.1 to P11.3, calls on end, each answered as the chapter has it.
func TestChains(t *testing.T) {
	rnd := rand.New(rand.NewSource(116))
	met := map[api.Errno]int{}
	held := map[bool]int{}
	for range 60 {
		seed := pick(rnd, seeds())
		r, b := keys.NewRing(seed), book{seed: slices.Clone(seed), draws: map[int][]uint32{}}
		signed := []api.Signed{{}}
		for range 400 {
			tree := someTree(rnd)
			switch rnd.Intn(4) {
			case 0, 1:
				draw := pick(rnd, append(draws, rnd.Uint32()))
				n, why := r.Turn(tree, draw)
				if m, want := b.turn(tree, draw); n != m || why != want {
					t.Fatalf("Turn(%d, %d): %d, %v, not %d, %v", tree, draw, n, why, m, want)
				}
				met[why]++
			case 2:
				h := someHead(rnd, tree)
				s, why := r.Sign(h)
				if x, want := b.sign(h); s != x || why != want {
					t.Fatalf("Sign(%+v): %+v, %v, not %+v, %v", h, s, why, x, want)
				}
				signed = append(signed, s)
				met[why]++
			case 3:
				s := someChange(rnd, pick(rnd, signed))
				if got, want := r.Holds(s), b.holds(s); got != want {
					t.Fatalf("Holds(%+v): %v", s, got)
				}
				held[b.holds(s)]++
			}
			n, ok := r.Epoch(tree)
			if m, want := b.epoch(tree); n != m || ok != want {
				t.Fatalf("Epoch(%d): %d, %v, not %d, %v", tree, n, ok, m, want)
			}
		}
	}
	if met[api.OK] < 100 || met[api.ErrArg] < 100 || met[api.ErrMany] < 100 || met[api.ErrNone] < 100 || held[true] < 100 || held[false] < 100 {
		t.Errorf("%v, %v: the test tells too little", met, held)
	}
}
