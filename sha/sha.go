// Package sha: hashes and tags: see doc/01-sha.md.
package sha

import (
	"deponent/api"
)

const (
	innerPad = 0x36
	outerPad = 0x5c
)

// Sum answers SHA-256 of b.
func Sum(b []byte) api.Digest {
	return finish(firstState(), 0, b)
}

// Mac answers HMAC of b under key, with Sum as its hash.
//
// A padded key is just one block, so each of the two hashes begins behind that
// block: b needn't be copied behind the key.
func Mac(key, b []byte) api.Digest {
	inner := finish(keyedState(key, innerPad), blockSize, b)
	return finish(keyedState(key, outerPad), blockSize, inner[:])
}

// keyedState answers the state behind the block of key xor pad.
func keyedState(key []byte, pad byte) [8]uint32 {
	block := keyBlock(key)
	for i := range block {
		block[i] ^= pad
	}
	return compress(firstState(), block[:])
}

// keyBlock brings key to the length of a block.
func keyBlock(key []byte) [blockSize]byte {
	var block [blockSize]byte
	if len(key) > blockSize {
		d := Sum(key)
		copy(block[:], d[:])
	} else {
		copy(block[:], key)
	}
	return block
}

// Cut answers the first width bytes of d, and noughts behind them.
func Cut(d api.Digest, width int) api.Digest {
	for i := max(width, 0); i < len(d); i++ {
		d[i] = 0
	}
	return d
}

// Join answers all lists of l, one behind the other, in memory of its own.
func Join(l ...[]byte) []byte {
	size := 0
	for _, b := range l {
		size += len(b)
	}
	joined := make([]byte, 0, size)
	for _, b := range l {
		joined = append(joined, b...)
	}
	return joined
}
