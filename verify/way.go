package verify

import (
	"deponent/api"
	"deponent/merkle"
	"deponent/sha"
)

// What is hashed begins with one of these (chapter 8).
const (
	leafMark = 0
	nodeMark = 1
)

// step is one of a way up: what is hashed, in parts, as seldom anyone asks for the text, and what comes of it.
type step struct {
	parts [][]byte
	hash  api.Digest
}

func leafStep(width int, b []byte) step {
	return step{parts: [][]byte{{leafMark}, b}, hash: merkle.Leaf(width, b)}
}

func nodeStep(width int, a, b api.Digest) step {
	n := counted(width)
	return step{parts: [][]byte{{nodeMark}, a[:n], b[:n]}, hash: merkle.Node(width, a, b)}
}

func (s step) text() []byte { return sha.Join(s.parts...) }

// top answers where a way leads to.
func top(steps []step) api.Digest { return steps[len(steps)-1].hash }

// climb answers the steps from the leaf b at index up to the root of size leaves, one at least. It is false, if there is no such leaf, or if path has more hashes than stand beside the way, or less. How many do hangs on index and size alone.
func climb(width int, b []byte, index, size uint64, path []api.Digest) ([]step, bool) {
	if index >= size {
		return nil, false
	}
	steps := []step{leafStep(width, b)}
	at, last := index, size-1
way:
	for _, beside := range path {
		for last > 0 {
			odd, lastOne := at%2 == 1, at == last
			at, last = at/2, last/2
			switch {
			case odd:
				steps = append(steps, nodeStep(width, beside, top(steps)))
				continue way
			case !lastOne:
				steps = append(steps, nodeStep(width, top(steps), beside))
				continue way
			}
			// Beside the last one of a floor nothing stands: it goes up as it is.
		}
		return nil, false
	}
	return steps, last == 0
}

// grow answers the roots of the first from leaves and of all to leaves, of which there are more, by a path that begins beside first, the hash of the last whole part of the first ones. It is false, if path has more hashes than stand beside the way, or less.
func grow(width int, from, to uint64, first api.Digest, path []api.Digest) (was, is api.Digest, ok bool) {
	was, is = first, first
	at, last := from-1, to-1
	for at%2 == 1 {
		at, last = at/2, last/2
	}
way:
	for _, beside := range path {
		for last > 0 {
			odd, lastOne := at%2 == 1, at == last
			at, last = at/2, last/2
			switch {
			case odd:
				was, is = merkle.Node(width, beside, was), merkle.Node(width, beside, is)
				continue way
			case !lastOne:
				is = merkle.Node(width, is, beside) // behind the first ones, which know nothing of it
				continue way
			}
		}
		return api.Digest{}, api.Digest{}, false
	}
	return was, is, last == 0
}
