package sha

import (
	"math/bits"

	"deponent/api"
)

const (
	blockSize  = 64
	lengthSize = 8
)

// roundWords are K0 to K63: the first 32 bits behind the point of the cube roots of the first 64 primes.
var roundWords = [64]uint32{
	0x428a2f98, 0x71374491, 0xb5c0fbcf, 0xe9b5dba5, 0x3956c25b, 0x59f111f1, 0x923f82a4, 0xab1c5ed5,
	0xd807aa98, 0x12835b01, 0x243185be, 0x550c7dc3, 0x72be5d74, 0x80deb1fe, 0x9bdc06a7, 0xc19bf174,
	0xe49b69c1, 0xefbe4786, 0x0fc19dc6, 0x240ca1cc, 0x2de92c6f, 0x4a7484aa, 0x5cb0a9dc, 0x76f988da,
	0x983e5152, 0xa831c66d, 0xb00327c8, 0xbf597fc7, 0xc6e00bf3, 0xd5a79147, 0x06ca6351, 0x14292967,
	0x27b70a85, 0x2e1b2138, 0x4d2c6dfc, 0x53380d13, 0x650a7354, 0x766a0abb, 0x81c2c92e, 0x92722c85,
	0xa2bfe8a1, 0xa81a664b, 0xc24b8b70, 0xc76c51a3, 0xd192e819, 0xd6990624, 0xf40e3585, 0x106aa070,
	0x19a4c116, 0x1e376c08, 0x2748774c, 0x34b0bcb5, 0x391c0cb3, 0x4ed8aa4a, 0x5b9cca4f, 0x682e6ff3,
	0x748f82ee, 0x78a5636f, 0x84c87814, 0x8cc70208, 0x90befffa, 0xa4506ceb, 0xbef9a3f7, 0xc67178f2,
}

// firstState holds the first 32 bits behind the point of the square roots of the first eight primes.
func firstState() [8]uint32 {
	return [8]uint32{
		0x6a09e667, 0xbb67ae85, 0x3c6ef372, 0xa54ff53a,
		0x510e527f, 0x9b05688c, 0x1f83d9ab, 0x5be0cd19,
	}
}

// finish hashes b and the ending, from a state that has already taken in before bytes, whole blocks of them.
func finish(state [8]uint32, before uint64, b []byte) api.Digest {
	whole := len(b) - len(b)%blockSize
	state = takeBlocks(state, b[:whole])
	state = takeBlocks(state, ending(b[whole:], before+uint64(len(b))))
	return digestOf(state)
}

// takeBlocks takes in b, which is whole blocks.
func takeBlocks(state [8]uint32, b []byte) [8]uint32 {
	for at := 0; at < len(b); at += blockSize {
		state = compress(state, b[at:at+blockSize])
	}
	return state
}

// ending answers the last one or two blocks of a text of length bytes: rest, which is less than a block, the byte 0x80, noughts and the length in bits.
func ending(rest []byte, length uint64) []byte {
	size := blockSize
	if len(rest)+1+lengthSize > blockSize {
		size = 2 * blockSize
	}
	end := make([]byte, size)
	copy(end, rest)
	end[len(rest)] = 0x80
	count := 8 * length
	for i := size - 1; i >= size-lengthSize; i-- {
		end[i] = byte(count)
		count >>= 8
	}
	return end
}

// compress takes one block into state.
func compress(state [8]uint32, block []byte) [8]uint32 {
	w := schedule(block)
	a, b, c, d := state[0], state[1], state[2], state[3]
	e, f, g, h := state[4], state[5], state[6], state[7]
	for t := range w {
		t1 := h + bigSigma1(e) + choose(e, f, g) + roundWords[t] + w[t]
		t2 := bigSigma0(a) + majority(a, b, c)
		h, g, f, e, d, c, b, a = g, f, e, d+t1, c, b, a, t1+t2
	}
	return [8]uint32{
		state[0] + a, state[1] + b, state[2] + c, state[3] + d,
		state[4] + e, state[5] + f, state[6] + g, state[7] + h,
	}
}

// schedule answers W0 to W63 of a block.
func schedule(block []byte) [64]uint32 {
	var w [64]uint32
	for t := range 16 {
		w[t] = uint32(block[4*t])<<24 | uint32(block[4*t+1])<<16 | uint32(block[4*t+2])<<8 | uint32(block[4*t+3])
	}
	for t := 16; t < len(w); t++ {
		w[t] = smallSigma1(w[t-2]) + w[t-7] + smallSigma0(w[t-15]) + w[t-16]
	}
	return w
}

// digestOf writes out a state, the highest bytes first.
func digestOf(state [8]uint32) api.Digest {
	var d api.Digest
	for i, word := range state {
		d[4*i] = byte(word >> 24)
		d[4*i+1] = byte(word >> 16)
		d[4*i+2] = byte(word >> 8)
		d[4*i+3] = byte(word)
	}
	return d
}

func smallSigma0(x uint32) uint32 { return turn(x, 7) ^ turn(x, 18) ^ x>>3 }

func smallSigma1(x uint32) uint32 { return turn(x, 17) ^ turn(x, 19) ^ x>>10 }

func bigSigma0(x uint32) uint32 { return turn(x, 2) ^ turn(x, 13) ^ turn(x, 22) }

func bigSigma1(x uint32) uint32 { return turn(x, 6) ^ turn(x, 11) ^ turn(x, 25) }

// turn turns x right by n bits.
func turn(x uint32, n int) uint32 { return bits.RotateLeft32(x, -n) }

// choose takes f's bits where e's are 1, and g's where they are 0.
func choose(e, f, g uint32) uint32 { return e&f ^ ^e&g }

// majority has the bits that two of three have.
func majority(a, b, c uint32) uint32 { return a&b ^ a&c ^ b&c }
