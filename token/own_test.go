package token_test

import (
	"bytes"
	"errors"
	"math/rand"
	"slices"
	"testing"

	"deponent/api"
	"deponent/codec"
	"deponent/token"
)

// roomy is l with room behind it, and the whole of its memory.
func roomy(l []api.Caveat) (list, whole []api.Caveat) {
	whole = slices.Concat(l, slices.Repeat([]api.Caveat{{Kind: api.Until, N: 0xa5a5}}, 20))
	return whole[:len(l)], whole
}

// spoil changes all of a list of caveats, its spare room too.
func spoil(l []api.Caveat) {
	l = l[:cap(l)]
	for i := range l {
		l[i].Kind ^= 3
		l[i].N ^= 0x7777
	}
}

// spoilBytes changes all of a list of bytes, its spare room too.
func spoilBytes(b []byte) {
	b = b[:cap(b)]
	for i := range b {
		b[i] ^= 0x77
	}
}

// strange are lists that are refused: of a Kind that is none, of too many.
func strange() [][]api.Caveat {
	return [][]api.Caveat{{{}}, {few[0], {Kind: 9}}, append(slices.Clone(few), few[0]), make([]api.Caveat, 9)}
}

// TestCaveatsAreLeft: R2, no call changes the caveats of a token, nor the room behind them, be it refused or not; nor do answers hang on that room.
func TestCaveatsAreLeft(t *testing.T) {
	root := roots()[2]
	for _, l := range append(lists(api.MaxCaveats), strange()...) {
		list, whole := roomy(l)
		was := slices.Clone(whole)
		tight := tagged(root, 7, l...)
		x := api.Token{Id: tight.Id, Caveats: list, Tag: tight.Tag}
		for _, c := range append(slices.Clone(few), api.Caveat{}) {
			y, why := token.Narrow(x, c)
			if z, want := token.Narrow(tight, c); why != want || !same(y, z) {
				t.Fatalf("Narrow(%+v) hangs on room", l)
			}
		}
		b, why := token.Encode(x)
		if c, want := token.Encode(tight); why != want || !bytes.Equal(b, c) {
			t.Fatalf("Encode(%+v) hangs on room", l)
		}
		if token.Genuine(root, x) != wantedGenuine(root, tight) || token.Forged(root, nil, x) != wantedGenuine(root, tight) || token.Holds(x, 1, 3, 1) != wantedHolds(l, 1, 3, 1) {
			t.Fatalf("%+v: an answer hangs on room", l)
		}
		if !slices.Equal(whole, was) {
			t.Fatalf("%+v was changed: %+v", was, whole)
		}
	}
}

// TestNarrowedSharesNothing: R2, a narrowed token and the one that it came of share no memory, their spare room too; nor do two that came of one.
func TestNarrowedSharesNothing(t *testing.T) {
	root := roots()[2]
	for _, l := range lists(api.MaxCaveats - 1) {
		list, whole := roomy(l)
		x := tagged(root, 7, l...)
		x.Caveats = list
		first, second := mustNarrow(t, x, few[0]), mustNarrow(t, x, few[1])
		wantFirst, wantSecond := tagged(root, 7, append(slices.Clone(l), few[0])...), tagged(root, 7, append(slices.Clone(l), few[1])...)
		if !same(first, wantFirst) || !same(second, wantSecond) {
			t.Fatalf("%+v: two that came of it: %+v, %+v", x, first, second)
		}
		was := slices.Clone(whole)
		spoil(second.Caveats)
		if !slices.Equal(whole, was) || !same(first, wantFirst) || !same(mustNarrow(t, x, few[1]), wantSecond) {
			t.Fatalf("%+v: it shares memory with what came of it", l)
		}
		spoil(whole)
		if !same(first, wantFirst) || !token.Genuine(root, first) {
			t.Fatalf("%+v: what came of it shares memory with it", l)
		}
	}
}

// TestNarrowedChain: R2, each of a chain of tokens stays as it was, whatever is done to the others.
func TestNarrowedChain(t *testing.T) {
	root := roots()[2]
	for i := range api.MaxCaveats + 1 {
		chain := []api.Token{token.Mint(root, 7)}
		for _, c := range few {
			chain = append(chain, mustNarrow(t, chain[len(chain)-1], c))
		}
		spoil(chain[i].Caveats)
		for j, x := range chain {
			if want := tagged(root, 7, few[:j]...); j != i && (!same(x, want) || !token.Genuine(root, x)) {
				t.Fatalf("number %d hangs on number %d: %+v", j, i, x)
			}
		}
	}
}

// TestBytesAreLeft: R2, Decode changes no bytes, nor the room behind them, be it refused or not, keeps none of them, and does not read that room.
func TestBytesAreLeft(t *testing.T) {
	rnd := rand.New(rand.NewSource(144))
	for _, x := range tokens(rnd) {
		b := wantedBytes(x)
		for n := range len(b) + 1 {
			whole := slices.Concat(b[:n], b[n:], bytes.Repeat([]byte{0xa5}, 100))
			was := slices.Clone(whole)
			y, err := token.Decode(whole[:n])
			if !bytes.Equal(whole, was) {
				t.Fatalf("%x was changed: %x", was, whole)
			}
			spoilBytes(whole)
			if n < len(b) {
				var no *codec.Refusal
				if !errors.As(err, &no) || *no != (codec.Refusal{At: n, Why: api.ErrEnd}) {
					t.Fatalf("%d bytes of %x: %v", n, b, err)
				}
			} else if err != nil || !same(y, x) {
				t.Fatalf("%x: %+v, %v, hang on room or on what was handed in", b, y, err)
			}
		}
	}
}

// TestAnswersAreNew: R2, what was answered is memory of its own, its spare room too: changed, no other answer and no later one is.
func TestAnswersAreNew(t *testing.T) {
	rnd := rand.New(rand.NewSource(145))
	for _, x := range tokens(rnd) {
		want := wantedBytes(x)
		was := clone(x)
		first, second := mustEncode(t, x), mustEncode(t, x)
		spoilBytes(first)
		if !bytes.Equal(second, want) || !bytes.Equal(mustEncode(t, x), want) || !same(x, was) {
			t.Fatalf("%+v: encodings share memory", x)
		}
		y, z := mustDecode(t, want), mustDecode(t, want)
		spoil(y.Caveats)
		y.Tag[0]++
		if !same(z, was) || !same(mustDecode(t, want), was) || !bytes.Equal(want, second) {
			t.Fatalf("%+v: decoded ones share memory", x)
		}
	}
	root := roots()[2]
	x, y := token.Mint(root, 7), token.Mint(root, 7)
	spoil(x.Caveats)
	x.Caveats = append(x.Caveats, few...)
	if !same(y, tagged(root, 7)) || !same(token.Mint(root, 7), y) {
		t.Error("minted ones share memory")
	}
}

// TestRefusalsAreNew: R2, a refusal that was changed changes no other one.
func TestRefusalsAreNew(t *testing.T) {
	for _, c := range []struct {
		b   []byte
		at  int
		why api.Errno
	}{
		{nil, 0, api.ErrEnd}, {make([]byte, 36), 36, api.ErrEnd}, {make([]byte, 38), 37, api.ErrTail},
		{[]byte{0, 0, 0, 0, 5}, 5, api.ErrMany}, {[]byte{0, 0, 0, 0, 1, 4}, 6, api.ErrForm},
	} {
		_, first := token.Decode(c.b)
		_, second := token.Decode(c.b)
		var a, b *codec.Refusal
		if !errors.As(first, &a) || !errors.As(second, &b) || a == b {
			t.Fatalf("%x: %v, %v", c.b, first, second)
		}
		a.At, a.Why = 77, api.ErrDisk
		if *b != (codec.Refusal{At: c.at, Why: c.why}) {
			t.Errorf("%x: refusals share memory", c.b)
		}
		wantRefused(t, c.b, c.at, c.why)
	}
}

// TestMintedAreLeft: R2, Forged changes none of the numbers, nor the room behind them, nor does it hang on that room.
func TestMintedAreLeft(t *testing.T) {
	root := roots()[2]
	for n := range len(numbers) + 1 {
		whole := slices.Clone(numbers)
		for i, id := range numbers {
			x := token.Mint(root, id)
			if token.Forged(root, whole[:n], x) != (i >= n) {
				t.Fatalf("%d of %d minted: %d: %v", n, whole, id, i < n)
			}
		}
		if !slices.Equal(whole, numbers) {
			t.Fatalf("the first %d were changed: %d", n, whole)
		}
	}
}

// TestNilIsEmpty: R4, nil and empty lists mean the same, those with room behind them too.
func TestNilIsEmpty(t *testing.T) {
	root := roots()[2]
	for _, l := range [][]api.Caveat{nil, {}, slices.Clone(few)[:0]} {
		x := token.Mint(root, 7)
		x.Caveats = l
		if !token.Genuine(root, x) || !token.Holds(x, 1, 2, 3) || !same(mustNarrow(t, x, few[0]), tagged(root, 7, few[0])) || !bytes.Equal(mustEncode(t, x), wantedBytes(tagged(root, 7))) {
			t.Errorf("%+v is not like none", l)
		}
		for _, minted := range [][]uint32{nil, {}, {7, 7}} {
			if !token.Forged(root, minted[:0], x) || token.Forged(root, minted, x) != (len(minted) == 0) {
				t.Errorf("%d minted are not like none", minted)
			}
		}
	}
}

// TestAskedAgain: R4, what is asked twice is answered alike.
func TestAskedAgain(t *testing.T) {
	rnd := rand.New(rand.NewSource(146))
	for range 300 {
		root, id := pick(rnd, roots()), rnd.Uint32()
		l := someCaveats(rnd, rnd.Intn(api.MaxCaveats+1))
		op, tree, clock := pick(rnd, ints), pick(rnd, ints), pick(rnd, clocks)
		x := mustNarrow(t, token.Mint(root, id), l...)
		for range 3 {
			if !same(mustNarrow(t, token.Mint(root, id), l...), x) || !token.Genuine(root, x) || !bytes.Equal(mustEncode(t, x), wantedBytes(x)) || token.Holds(x, op, tree, clock) != wantedHolds(l, op, tree, clock) {
				t.Fatalf("%+v: answered otherwise", x)
			}
		}
	}
}
