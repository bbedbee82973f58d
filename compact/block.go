package compact

import (
	"slices"

	"deponent/api"
	"deponent/merkle"
)

// farthest is where the last range ends. No block is greater either.
const farthest = 1 << 32

// Blocks answers the sizes of the blocks of a range, in order.
func Blocks(begin, end uint64) []uint64 {
	if end > farthest {
		return nil
	}
	var sizes []uint64
	at := begin
blocks:
	for at < end {
		// One leaf is a block at any place, so that each round finds one.
		for size := uint64(farthest); size > 0; size /= 2 {
			if at%size == 0 && size <= end-at {
				sizes = append(sizes, size)
				at += size
				continue blocks
			}
		}
	}
	return sizes
}

// block is one of a range.
type block struct {
	begin, size uint64
	hash        api.Digest
}

// blocksOf answers the blocks of a right range.
func blocksOf(r Range) []block {
	var l []block
	at := r.Begin
	for i, size := range Blocks(r.Begin, r.End) {
		l = append(l, block{begin: at, size: size, hash: r.Hashes[i]})
		at += size
	}
	return l
}

// halves tells whether a, and b right behind it, make up one greater block.
func halves(a, b block) bool {
	return a.size == b.size && a.begin%(2*a.size) == 0
}

// joined answers the range of a and of b, which begins where a ends; both are right. A block that is none of theirs has its two halves next to each other as soon as the second half is whole: so each is found on one way through.
func joined(width int, a, b Range) Range {
	var done []block
	for _, next := range slices.Concat(blocksOf(a), blocksOf(b)) {
		for len(done) > 0 && halves(done[len(done)-1], next) {
			first := done[len(done)-1]
			done = done[:len(done)-1]
			next = block{begin: first.begin, size: 2 * first.size, hash: merkle.Node(width, first.hash, next.hash)}
		}
		done = append(done, next)
	}
	r := Range{Begin: a.Begin, End: b.End}
	for _, x := range done {
		r.Hashes = append(r.Hashes, x.hash)
	}
	return r
}
