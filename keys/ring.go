package keys

import (
	"bytes"

	"deponent/api"
)

// Ring has the keys of all trees, those of older epochs too, so that what they signed can still be checked.
type Ring struct {
	seed  []byte
	trees [api.MaxTrees][]api.Digest // the keys of each tree, by their epochs
}

// NewRing answers a ring in which no tree has an epoch.
func NewRing(seed []byte) *Ring { return &Ring{seed: bytes.Clone(seed)} }

// Turn begins one more epoch of a tree, and answers its number.
func (r *Ring) Turn(tree int, draw uint32) (int, api.Errno) {
	if !isTree(tree) {
		return 0, api.ErrArg
	}
	epoch := len(r.trees[tree])
	if epoch == api.MaxEpochs {
		return 0, api.ErrMany
	}
	r.trees[tree] = append(r.trees[tree], Key(r.seed, tree, epoch, draw))
	return epoch, api.OK
}

// Epoch answers the number of a tree's last epoch, if it has one.
func (r *Ring) Epoch(tree int) (int, bool) {
	if !isTree(tree) || len(r.trees[tree]) == 0 {
		return 0, false
	}
	return len(r.trees[tree]) - 1, true
}

// Sign answers h, signed in the last epoch of its tree, whichever Epoch it came with.
func (r *Ring) Sign(h api.Head) (api.Signed, api.Errno) {
	if !isTree(h.Tree) {
		return api.Signed{}, api.ErrArg
	}
	epoch, ok := r.Epoch(h.Tree)
	if !ok {
		return api.Signed{}, api.ErrNone
	}
	h.Epoch = epoch
	return Sign(r.trees[h.Tree][epoch], h), api.OK
}

// Holds tells whether s was signed in the epoch that it names, be it the last one or not.
func (r *Ring) Holds(s api.Signed) bool {
	tree, epoch := s.Head.Tree, s.Head.Epoch
	if !isTree(tree) || epoch < 0 || epoch >= len(r.trees[tree]) {
		return false
	}
	return Holds(r.trees[tree][epoch], s)
}

func isTree(tree int) bool { return tree >= 0 && tree < api.MaxTrees }
