package sha

import (
	"bytes"
	"math/big"
	"testing"
)

func firstPrimes(count int) []int64 {
	var primes []int64
	for n := int64(2); len(primes) < count; n++ {
		if big.NewInt(n).ProbablyPrime(0) {
			primes = append(primes, n)
		}
	}
	return primes
}

// rootBits answers the first 32 bits behind the point of p's root of that degree: the greatest x whose power is not above p times 2 to the power of 32 times the degree, modulo 2^32.
func rootBits(p int64, degree uint) uint32 {
	limit := new(big.Int).Lsh(big.NewInt(p), 32*degree)
	x := new(big.Int)
	for bit := 39; bit >= 0; bit-- {
		x.SetBit(x, bit, 1)
		if new(big.Int).Exp(x, big.NewInt(int64(degree)), nil).Cmp(limit) > 0 {
			x.SetBit(x, bit, 0)
		}
	}
	return uint32(x.Uint64())
}

func TestRoundWordsAreCubeRoots(t *testing.T) {
	for i, p := range firstPrimes(64) {
		if want := rootBits(p, 3); roundWords[i] != want {
			t.Errorf("K%d: %08x, not %08x", i, roundWords[i], want)
		}
	}
}

func TestFirstStateIsSquareRoots(t *testing.T) {
	for i, p := range firstPrimes(8) {
		if got, want := firstState()[i], rootBits(p, 2); got != want {
			t.Errorf("word %d: %08x, not %08x", i, got, want)
		}
	}
}

// TestEnding: texts whose length in bits needs more than four bytes are too long to be hashed in a test, so that their last block is looked at by itself.
func TestEnding(t *testing.T) {
	for rest := range blockSize {
		for _, blocks := range []uint64{0, 1, 3, 1 << 23, 1<<25 - 1} {
			length := blocks*blockSize + uint64(rest)
			text := bytes.Repeat([]byte{0xee}, rest)
			want := append(bytes.Clone(text), 0x80)
			for len(want)%64 != 56 {
				want = append(want, 0)
			}
			want = append(want, new(big.Int).SetUint64(8*length).FillBytes(make([]byte, 8))...)
			if got := ending(text, length); !bytes.Equal(got, want) {
				t.Errorf("%d bytes of %d: %x, not %x", rest, length, got, want)
			}
		}
	}
}
