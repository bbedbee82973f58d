package token_test

import (
	"crypto/hmac"
	"crypto/sha256"
	"encoding/binary"
	"encoding/hex"
	"errors"
	"math"
	"math/bits"
	"math/rand"
	"slices"
	"testing"

	"deponent/api"
	"deponent/codec"
	"deponent/token"
)

const half = 1 << (bits.UintSize / 2)

var kinds = []int{api.OnTree, api.Below, api.Until}

// strangeKinds are of no caveat: about those that are, 0, below 0, at the ends of int, and those whose lowest bytes are a Kind's.
var strangeKinds = []int{
	0, -1, -2, -3, -4, 4, 5, 6, 7, 9, 127, 128, 253, 254, 255, 256, 257, 258, 259, 260, 513, 65537, 65539, -253, -254, -255, -256, -257,
	half - 1, half, half + 1, half + 2, half + 3, -half, -half + 1, math.MinInt32, math.MaxInt32, math.MinInt, math.MinInt + 1, math.MinInt + 2, math.MinInt + 3, math.MaxInt - 1, math.MaxInt,
}

// numbers are those of four bytes about which bytes change, and at their ends.
var numbers = []uint32{0, 1, 2, 3, 4, 255, 256, 257, 65535, 65536, 1 << 24, 0x01020304, math.MaxInt32, 1 << 31, math.MaxUint32 - 1, math.MaxUint32}

// roots are digests: of noughts, full, with unlike bytes, and with one byte at each end.
func roots() []api.Digest {
	var full, unlike api.Digest
	for i := range full {
		full[i], unlike[i] = 0xff, byte(i+1)
	}
	return []api.Digest{{}, full, unlike, {0: 1}, {31: 1}}
}

// wantedMac is the library's.
func wantedMac(key api.Digest, b []byte) api.Digest {
	h := hmac.New(sha256.New, key[:])
	h.Write(b)
	return api.Digest(h.Sum(nil))
}

// wantedCaveat is a Kind's lowest byte, and N.
func wantedCaveat(c api.Caveat) []byte {
	return binary.BigEndian.AppendUint32([]byte{byte(c.Kind)}, c.N)
}

// tagged is a token with these caveats, and the tag that the chapter's Macs make of them, though they be strange ones or too many.
func tagged(root api.Digest, id uint32, l ...api.Caveat) api.Token {
	tag := wantedMac(root, binary.BigEndian.AppendUint32([]byte("token"), id))
	for _, c := range l {
		tag = wantedMac(tag, wantedCaveat(c))
	}
	return api.Token{Id: id, Caveats: slices.Clone(l), Tag: tag}
}

// wantedGenuine is P12.1 by its words.
func wantedGenuine(root api.Digest, t api.Token) bool {
	for _, c := range t.Caveats {
		if !slices.Contains(kinds, c.Kind) {
			return false
		}
	}
	return len(t.Caveats) <= 4 && t.Tag == tagged(root, t.Id, t.Caveats...).Tag
}

func wantedBytes(t api.Token) []byte {
	b := append(binary.BigEndian.AppendUint32(nil, t.Id), byte(len(t.Caveats)))
	for _, c := range t.Caveats {
		b = append(b, wantedCaveat(c)...)
	}
	return append(b, t.Tag[:]...)
}

// same holds two tokens against each other; nil and empty lists are one.
func same(a, b api.Token) bool {
	return a.Id == b.Id && a.Tag == b.Tag && slices.Equal(a.Caveats, b.Caveats)
}

func clone(t api.Token) api.Token {
	t.Caveats = slices.Clone(t.Caveats)
	return t
}

// few are caveats of each Kind.
var few = []api.Caveat{{Kind: api.OnTree, N: 3}, {Kind: api.Below, N: 3}, {Kind: api.Until, N: 258}, {Kind: api.OnTree}}

// lists are all lists of few, from none up to so many.
func lists(most int) [][]api.Caveat {
	all := [][]api.Caveat{nil}
	for i := 0; i < len(all); i++ {
		if len(all[i]) == most {
			continue
		}
		for _, c := range few {
			all = append(all, append(slices.Clone(all[i]), c))
		}
	}
	return all
}

// pick is one of a list.
func pick[T any](r *rand.Rand, l []T) T { return l[r.Intn(len(l))] }

func someDigest(r *rand.Rand) api.Digest {
	var d api.Digest
	r.Read(d[:])
	return d
}

// someCaveats are n of Kinds that there are.
func someCaveats(r *rand.Rand, n int) []api.Caveat {
	l := make([]api.Caveat, n)
	for i := range l {
		l[i] = api.Caveat{Kind: pick(r, kinds), N: pick(r, append(numbers, r.Uint32()))}
	}
	return l
}

// mustNarrow narrows by each of l.
func mustNarrow(t *testing.T, x api.Token, l ...api.Caveat) api.Token {
	t.Helper()
	for _, c := range l {
		y, why := token.Narrow(x, c)
		if why != api.OK {
			t.Fatalf("Narrow(%+v, %+v): %v", x, c, why)
		}
		x = y
	}
	return x
}

func mustEncode(t *testing.T, x api.Token) []byte {
	t.Helper()
	b, why := token.Encode(x)
	if why != api.OK {
		t.Fatalf("Encode(%+v): %v", x, why)
	}
	return b
}

// mustDecode asks for a token, and that nothing stands beside it.
func mustDecode(t *testing.T, b []byte) api.Token {
	t.Helper()
	x, err := token.Decode(b)
	if err != nil {
		t.Fatalf("Decode(%x): %v", b, err)
	}
	return x
}

// wantNoToken asks that a Narrow is refused, and that nothing stands beside it.
func wantNoToken(t *testing.T, x api.Token, c api.Caveat, want api.Errno) {
	t.Helper()
	if y, why := token.Narrow(x, c); !same(y, api.Token{}) || why != want {
		t.Fatalf("Narrow(%+v, %+v): %+v, %v, not %v", x, c, y, why, want)
	}
}

// wantNoBytes asks that an Encode is refused, and that nothing stands beside it.
func wantNoBytes(t *testing.T, x api.Token, want api.Errno) {
	t.Helper()
	if b, why := token.Encode(x); len(b) != 0 || why != want {
		t.Fatalf("Encode(%+v): %x, %v, not %v", x, b, why, want)
	}
}

// TestRuns: the chapter's runs.
func TestRuns(t *testing.T) {
	root := api.Digest{1, 2, 3}
	x := token.Mint(root, 7)
	if !token.Genuine(root, x) {
		t.Error("what was minted is not genuine")
	}
	other := x
	other.Id = 8
	if token.Genuine(root, other) {
		t.Error("with another Id it is genuine")
	}
	y := mustNarrow(t, x, api.Caveat{Kind: api.OnTree, N: 3})
	if !token.Holds(y, api.Add, 3, 9) || token.Holds(y, api.Add, 4, 9) {
		t.Error("narrowed to tree 3")
	}
	for i := range 5 {
		z, why := token.Narrow(x, api.Caveat{Kind: api.Below, N: 9})
		if i < 4 && why != api.OK || i == 4 && why != api.ErrMany {
			t.Fatalf("Narrow number %d: %v", i+1, why)
		}
		x = z
	}
	b := mustEncode(t, token.Mint(root, 7))
	if len(b) != 37 || !same(mustDecode(t, b), token.Mint(root, 7)) {
		t.Errorf("37 bytes: %x", b)
	}
	wantRefused(t, b[:36], 36, api.ErrEnd)
}

// TestExamples: the chapter's examples.
func TestExamples(t *testing.T) {
	root := api.Digest{1, 2, 3}
	x := token.Mint(root, 7)
	never := mustNarrow(t, x, api.Caveat{Kind: api.Until, N: 0})
	for _, clock := range clocks {
		if token.Holds(never, api.Add, 1, clock) {
			t.Errorf("Until 0 holds at %d", clock)
		}
	}
	nothing := mustNarrow(t, x, api.Caveat{Kind: api.Below, N: 1})
	for op := api.Add; op <= api.Limit; op++ {
		if token.Holds(nothing, op, 1, 0) {
			t.Errorf("Below 1 permits operation %d", op)
		}
	}
	y := mustNarrow(t, x, few...)
	for i := range y.Caveats {
		z := y
		z.Caveats = slices.Delete(slices.Clone(y.Caveats), i, i+1)
		if token.Genuine(root, z) {
			t.Errorf("with caveat %d left out it is genuine", i)
		}
	}
}

// TestKnown: tags that another program's HMAC has reckoned.
func TestKnown(t *testing.T) {
	none, full, unlike := roots()[0], roots()[1], roots()[2]
	for _, c := range []struct {
		root api.Digest
		id   uint32
		l    []api.Caveat
		want string
	}{
		{none, 0, nil, "64bd0cb83586231251031946ba7a0926c3a22b53955b4f12aa836d6a42f0a9b4"},
		{unlike, 7, nil, "fcbf0224bafa5d00446ef5c78317e5893ea19662fd921c90d5be5e2d51fce5e8"},
		{full, math.MaxUint32, nil, "c7226affb0f0078c934bd87827eced6598121e55e7d3bac2a1b062d10bf7f139"},
		{unlike, 7, []api.Caveat{{Kind: 1, N: 3}}, "63d794edbb043c6e4078cd9206ec1006ee1e8d9c47a31c473028667a3597890e"},
		{unlike, 7, []api.Caveat{{Kind: 1, N: 3}, {Kind: 3, N: 258}}, "197aec23fdeccbe6742ce484e80bff717c5ef619355f717f54105223fde22b80"},
		{unlike, 7, []api.Caveat{{Kind: 3, N: 258}, {Kind: 1, N: 3}}, "f87225aa131cdce7fd14fff79ececcf6a6226788d7dc60c753a70425c8ebbee0"},
		{full, 258, []api.Caveat{{Kind: 2, N: 5}, {Kind: 1, N: 1 << 24}, {Kind: 3, N: math.MaxUint32}, {Kind: 3}}, "1a2baa681ba15c5f6e0e3b272c4823244e7f31deb6481a610bd42a4811eec689"},
		{none, 0x01020304, []api.Caveat{{Kind: 1}, {Kind: 1}, {Kind: 1}, {Kind: 1}}, "143be2a35ce95063c8677f544d69ae81c5eca4f087e53fe19f60d59b69f507a0"},
	} {
		x := mustNarrow(t, token.Mint(c.root, c.id), c.l...)
		if hex.EncodeToString(x.Tag[:]) != c.want || !token.Genuine(c.root, x) {
			t.Errorf("%d, %+v: %x, not %s", c.id, c.l, x.Tag, c.want)
		}
	}
}

// errnos are all of api's numbers.
var errnos = []api.Errno{api.OK, api.ErrArg, api.ErrLong, api.ErrMany, api.ErrEnd, api.ErrTail, api.ErrForm, api.ErrDisk, api.ErrToken, api.ErrDenied, api.ErrQuota, api.ErrNone, api.ErrState, api.ErrRange, api.ErrFull, api.ErrTaken}

// wantRefused asks that a Decode is refused at that place, by an error in which that number is found and no other, and that nothing stands beside it.
func wantRefused(t *testing.T, b []byte, at int, why api.Errno) {
	t.Helper()
	x, err := token.Decode(b)
	if !same(x, api.Token{}) {
		t.Fatalf("Decode(%x): %+v beside %v", b, x, err)
	}
	no, ok := err.(*codec.Refusal)
	if !ok || no == nil || *no != (codec.Refusal{At: at, Why: why}) || no.Error() == "" {
		t.Fatalf("Decode(%x): %v, not {%d, %d}", b, err, at, why)
	}
	for _, e := range []error{err, wrapped{err}, errors.Join(errors.New("another"), wrapped{wrapped{err}})} {
		var found *codec.Refusal
		var number api.Errno
		if !errors.As(e, &found) || found != no || !errors.As(e, &number) || number != why {
			t.Fatalf("Decode(%x): errors.As finds %v, %v in %v", b, found, number, e)
		}
		for _, other := range errnos {
			if errors.Is(e, other) != (other == why) {
				t.Fatalf("Decode(%x): errors.Is of %d in %v: %v", b, other, e, other != why)
			}
		}
	}
}

// wrapped is an error that has another one inside.
type wrapped struct{ inner error }

func (w wrapped) Error() string { return "token: " + w.inner.Error() }

func (w wrapped) Unwrap() error { return w.inner }
