package request_test

import (
	"bytes"
	"encoding/hex"
	"math"
	"math/rand"
	"reflect"
	"slices"
	"strings"
	"testing"

	"deponent/api"
	"deponent/request"
)

// wantedAnswer is P18.3's Answer by its words.
func wantedAnswer(a api.Response) ([]byte, api.Errno) {
	head := a.Head.Head
	bearer, no := wantedToken(a.Token)
	if len(a.Hashes) > 255 || len(a.Token.Caveats) > 4 {
		return nil, api.ErrMany
	}
	if len(a.Bytes) > 65535 {
		return nil, api.ErrLong
	}
	if a.Why < 0 || a.Why > 255 || head.Tree < 0 || head.Tree > 255 || head.Epoch < 0 || head.Epoch > math.MaxInt32 || no != api.OK {
		return nil, api.ErrArg
	}
	b := append([]byte{byte(a.Why)}, high(a.N, 8)...)
	b = append(b, text(a.Bytes)...)
	b = append(b, byte(len(a.Hashes)))
	for _, d := range a.Hashes {
		b = append(b, d[:]...)
	}
	b = append(b, 0)
	told := &b[len(b)-1]
	var behind []byte
	if !reflect.ValueOf(a.Head).IsZero() {
		*told++
		behind = append(behind, wantedHead(a.Head)...)
	}
	if !reflect.ValueOf(plainToken(a.Token)).IsZero() {
		*told += 2
		behind = append(behind, text(bearer)...)
	}
	return append(b, behind...), api.OK
}

// wantedHead is the 85 bytes of a head and its tag.
func wantedHead(s api.Signed) []byte {
	h := s.Head
	return slices.Concat([]byte{byte(h.Tree)}, high(uint64(h.Epoch), 4), high(h.Size, 8), high(h.Clock, 8), h.Root[:], s.Tag[:])
}

// sameResponse holds two responses against each other; nil and empty lists are one.
func sameResponse(a, b api.Response) bool {
	plain := func(a api.Response) api.Response {
		if len(a.Bytes) == 0 {
			a.Bytes = nil
		}
		if len(a.Hashes) == 0 {
			a.Hashes = nil
		}
		a.Token = plainToken(a.Token)
		return a
	}
	return reflect.DeepEqual(plain(a), plain(b))
}

// wantAnswer asks for the chapter's bytes of a, or for its refusal and nothing beside it.
func wantAnswer(t *testing.T, a api.Response) {
	t.Helper()
	want, why := wantedAnswer(a)
	if b, no := request.Answer(a); no != why || !bytes.Equal(b, want) {
		t.Fatalf("Answer(%.999v): %.999x, %v, not %.999x, %v", a, b, no, want, why)
	}
}

// wantNoAnswer asks that Answer refuses a with that number, and that nothing stands beside it.
func wantNoAnswer(t *testing.T, a api.Response, why api.Errno) {
	t.Helper()
	if b, no := request.Answer(a); no != why || len(b) != 0 {
		t.Fatalf("Answer(%.999v): %.999x, %v, not %v", a, b, no, why)
	}
}

func mustAnswer(t *testing.T, a api.Response) []byte {
	t.Helper()
	b, why := request.Answer(a)
	if why != api.OK {
		t.Fatalf("Answer(%.999v): %v", a, why)
	}
	return b
}

// fullHead has every number at its end.
func fullHead() api.Signed {
	h := api.Head{Tree: 255, Epoch: math.MaxInt32, Size: math.MaxUint64, Clock: math.MaxUint64, Root: digest(6)}
	return api.Signed{Head: h, Tag: digest(7)}
}

// heads are such as can be told: zero, with one thing each that is not, with unlike and with full fields.
func heads() []api.Signed {
	return []api.Signed{
		{},
		{Head: api.Head{Tree: 1}}, {Head: api.Head{Tree: 255}},
		{Head: api.Head{Epoch: 1}}, {Head: api.Head{Epoch: 256}}, {Head: api.Head{Epoch: math.MaxInt32}},
		{Head: api.Head{Size: 1}}, {Head: api.Head{Size: 1 << 63}},
		{Head: api.Head{Clock: 1}}, {Head: api.Head{Clock: 1 << 63}},
		{Head: api.Head{Root: api.Digest{1}}}, {Head: api.Head{Root: api.Digest{31: 1}}},
		{Tag: api.Digest{1}}, {Tag: api.Digest{31: 1}},
		{Head: api.Head{Tree: 3, Epoch: 0x04050607, Size: 0x08090a0b0c0d0e0f, Clock: 0x1011121314151617, Root: digest(8)}, Tag: digest(9)},
		fullHead(),
	}
}

// digests are so many, no two alike.
func digests(n int) []api.Digest {
	l := make([]api.Digest, n)
	for i := range l {
		l[i] = digest(byte(i))
	}
	return l
}

// responses are of all heads and tokens, with and without bytes and hashes.
func responses() []api.Response {
	var l []api.Response
	for i, s := range heads() {
		for j, x := range tokens() {
			a := api.Response{Head: s, Token: x, Bytes: bytes.Repeat([]byte{byte(i)}, i*j%7), Hashes: digests(i * (j + 1) % 4)}
			if (i+j)%2 == 0 {
				a.Why, a.N = api.Errno(i*j), pick(rand.New(rand.NewSource(int64(i))), longs)
			}
			l = append(l, a)
		}
	}
	return l
}

// TestAnswerWrittenOut: P18.3, each thing that a response has, alone and together.
func TestAnswerWrittenOut(t *testing.T) {
	nought := strings.Repeat("00", 32)
	d := "01" + nought[2:]
	for _, c := range []struct {
		a    api.Response
		want string
	}{
		{api.Response{}, "00 0000000000000000 0000 00 00"},
		{api.Response{Why: api.ErrTaken, N: 0x0102030405060708}, "1b 0102030405060708 0000 00 00"},
		{api.Response{Bytes: []byte("ab")}, "00 0000000000000000 0002 6162 00 00"},
		{api.Response{Hashes: []api.Digest{{1}, {}}}, "00 0000000000000000 0000 02" + d + nought + "00"},
		{api.Response{Head: api.Signed{Head: api.Head{Tree: 3, Epoch: 4, Size: 5, Clock: 6, Root: api.Digest{1}}}}, "00 0000000000000000 0000 00 01 03 00000004 0000000000000005 0000000000000006" + d + nought},
		{api.Response{Head: api.Signed{Tag: api.Digest{1}}}, "00 0000000000000000 0000 00 01 00 00000000 0000000000000000 0000000000000000" + nought + d},
		{api.Response{Token: api.Token{Id: 7}}, "00 0000000000000000 0000 00 02 0025 00000007 00" + nought},
		{api.Response{Why: 255, N: 9, Bytes: []byte{8}, Hashes: []api.Digest{{1}}, Head: api.Signed{Head: api.Head{Tree: 255, Epoch: 1<<31 - 1}}, Token: api.Token{Caveats: []api.Caveat{{Kind: 3, N: 2}}}},
			"ff 0000000000000009 0001 08 01" + d + "03 ff 7fffffff 0000000000000000 0000000000000000" + nought + nought + "002a 00000000 01 03 00000002" + nought},
	} {
		b, why := request.Answer(c.a)
		if got := hex.EncodeToString(b); why != api.OK || got != strings.ReplaceAll(c.want, " ", "") {
			t.Errorf("%+v: %s, %v, not %s", c.a, got, why, c.want)
		}
	}
}

// TestAnswer: P18.3, Head zero and not, and Token zero and not, in each way; the Numbers at their ends.
func TestAnswer(t *testing.T) {
	for _, a := range responses() {
		wantAnswer(t, a)
	}
	for _, n := range longs {
		wantAnswer(t, api.Response{N: n})
		wantAnswer(t, api.Response{Head: api.Signed{Head: api.Head{Size: n}}})
		wantAnswer(t, api.Response{Head: api.Signed{Head: api.Head{Clock: n}}})
		wantAnswer(t, api.Response{Head: api.Signed{Head: api.Head{Tree: 9, Size: n, Clock: ^n}}, N: n / 3})
	}
}

// TestAnswerOfWhy: P18.3, each Why that a byte tells; others are ErrArg.
func TestAnswerOfWhy(t *testing.T) {
	for n := range 256 {
		b := mustAnswer(t, api.Response{Why: api.Errno(n)})
		if want := append([]byte{byte(n)}, make([]byte, 12)...); !bytes.Equal(b, want) {
			t.Errorf("%d: %x", n, b)
		}
	}
	for _, n := range strange {
		wantNoAnswer(t, api.Response{Why: api.Errno(n)}, api.ErrArg)
		wantNoAnswer(t, api.Response{Why: api.Errno(n), Head: fullHead(), Token: tagged()}, api.ErrArg)
	}
}

// TestAnswerOfHeads: P18.3, the head's Tree and Epoch at both ends and beside them.
func TestAnswerOfHeads(t *testing.T) {
	for n := range 256 {
		wantAnswer(t, api.Response{Head: api.Signed{Head: api.Head{Tree: n}}})
	}
	for _, n := range strange {
		wantNoAnswer(t, api.Response{Head: api.Signed{Head: api.Head{Tree: n}}}, api.ErrArg)
		full := fullHead()
		full.Head.Tree = n
		wantNoAnswer(t, api.Response{Head: full}, api.ErrArg)
	}
	for _, n := range []int{0, 1, 255, 256, 65535, 65536, 1 << 24, 1 << 30, math.MaxInt32 - 1, math.MaxInt32} {
		b := mustAnswer(t, api.Response{Head: api.Signed{Head: api.Head{Tree: 1, Epoch: n}}})
		if !bytes.Equal(b[12:18], append([]byte{1, 1}, high(uint64(n), 4)...)) {
			t.Errorf("epoch %d: %x", n, b)
		}
		wantAnswer(t, api.Response{Head: api.Signed{Head: api.Head{Epoch: n}}})
	}
	for _, n := range strangeEpochs() {
		wantNoAnswer(t, api.Response{Head: api.Signed{Head: api.Head{Epoch: n}}}, api.ErrArg)
		full := fullHead()
		full.Head.Epoch = n
		wantNoAnswer(t, api.Response{Head: full}, api.ErrArg)
	}
}

// strangeEpochs are below 0, and above 2^31 - 1 where int has such.
func strangeEpochs() []int {
	l := []int{-1, -2, -255, -256, -65536, math.MinInt32, math.MinInt32 + 1, math.MinInt, math.MinInt + 1}
	for _, n := range []int64{1 << 31, 1<<31 + 1, 1<<32 - 1, 1 << 32, 1<<32 + 1, 1<<40 + 7, math.MaxInt64 - 1, math.MaxInt64} {
		if int64(int(n)) == n {
			l = append(l, int(n))
		}
	}
	return l
}

// TestAnswerOfHashes: P18.3, each number of Hashes that a byte tells, in order; from 256 on ErrMany.
func TestAnswerOfHashes(t *testing.T) {
	for n := range 256 {
		wantAnswer(t, api.Response{Hashes: digests(n)})
		wantAnswer(t, api.Response{Hashes: make([]api.Digest, n), N: 1})
	}
	for _, n := range []int{256, 257, 258, 511, 512, 513, 65536, 65537} {
		wantNoAnswer(t, api.Response{Hashes: make([]api.Digest, n)}, api.ErrMany)
	}
}

// TestAnswerOfBytes: P18.3, Bytes of 65,535 and fewer; from one more on ErrLong.
func TestAnswerOfBytes(t *testing.T) {
	rnd := rand.New(rand.NewSource(186))
	for _, n := range []int{0, 1, 2, 255, 256, 257, 511, 512, 4096, 32767, 32768, 65279, 65280, 65534, 65535} {
		b := make([]byte, n)
		rnd.Read(b)
		wantAnswer(t, api.Response{Bytes: b})
		wantAnswer(t, api.Response{Bytes: b, Hashes: digests(2), Head: fullHead(), Token: tagged()})
	}
	for _, n := range []int{65536, 65537, 65538, 1<<17 - 1, 1 << 17, 1<<17 + 1, 1 << 20} {
		wantNoAnswer(t, api.Response{Bytes: make([]byte, n)}, api.ErrLong)
	}
}

// TestAnswerOfTokens: P18.3, as many caveats as may be, and one more: ErrMany; of each Kind, and of one that is none: ErrArg.
func TestAnswerOfTokens(t *testing.T) {
	for _, x := range tokens() {
		wantAnswer(t, api.Response{Token: x})
		wantAnswer(t, api.Response{Token: x, Head: fullHead()})
	}
	for want, l := range strangeTokens() {
		for _, x := range l {
			wantNoAnswer(t, api.Response{Token: x}, want)
			wantNoAnswer(t, api.Response{Token: x, Head: fullHead(), Bytes: make([]byte, 65535), Hashes: make([]api.Digest, 255), Why: 255}, want)
		}
	}
}

// TestAnswerFirstRefusal: P18.3, of two refusals at once ErrMany counts first, ErrLong next.
func TestAnswerFirstRefusal(t *testing.T) {
	manyHashes := func(a *api.Response) { a.Hashes = make([]api.Digest, 256) }
	manyCaveats := func(a *api.Response) { a.Token.Caveats = slices.Repeat([]api.Caveat{{Kind: 1}}, 5) }
	long := func(a *api.Response) { a.Bytes = make([]byte, 65536) }
	why := func(a *api.Response) { a.Why = 256 }
	below := func(a *api.Response) { a.Why = -1 }
	tree := func(a *api.Response) { a.Head.Head.Tree = -1 }
	epoch := func(a *api.Response) { a.Head.Head.Epoch = -1 }
	kind := func(a *api.Response) {
		if len(a.Token.Caveats) == 0 {
			a.Token.Caveats = make([]api.Caveat, 1)
		}
		a.Token.Caveats[0].Kind = 4
	}
	faults := []struct {
		spoil func(*api.Response)
		why   api.Errno
	}{{manyHashes, api.ErrMany}, {manyCaveats, api.ErrMany}, {long, api.ErrLong}, {why, api.ErrArg}, {below, api.ErrArg}, {tree, api.ErrArg}, {epoch, api.ErrArg}, {kind, api.ErrArg}}
	for set := 1; set < 1<<len(faults); set++ {
		var a api.Response
		want := api.OK
		for i, f := range faults {
			if set>>i&1 == 1 {
				f.spoil(&a)
				if want == api.OK {
					want = f.why
				}
			}
		}
		wantNoAnswer(t, a, want)
	}
}

// TestAnswerOfEmpty: R4 beside P18.3, a token with an empty list of caveats, and nothing else, is zero.
func TestAnswerOfEmpty(t *testing.T) {
	want := make([]byte, 13)
	for _, l := range [][]api.Caveat{nil, {}, make([]api.Caveat, 3)[:0]} {
		b := mustAnswer(t, api.Response{Token: api.Token{Caveats: l}, Bytes: []byte{}, Hashes: []api.Digest{}})
		if !bytes.Equal(b, want) {
			t.Errorf("%x", b)
		}
	}
}

// someResponse has every field drawn, from their ends or any.
func someResponse(rnd *rand.Rand) api.Response {
	long := func() uint64 { return pick(rnd, append(longs, rnd.Uint64())) }
	a := api.Response{
		Why: api.Errno(pick(rnd, append(small, rnd.Intn(256)))), N: long(), Bytes: someBytes(rnd, pick(rnd, []int{0, 3, 300})),
		Hashes: digests(rnd.Intn(pick(rnd, []int{1, 5, 30}))), Token: someToken(rnd),
	}
	switch rnd.Intn(3) {
	case 0:
		a.Head = pick(rnd, heads())
	case 1:
		a.Head = api.Signed{Head: api.Head{Tree: rnd.Intn(256), Epoch: rnd.Intn(math.MaxInt32), Size: long(), Clock: long(), Root: digest(byte(rnd.Intn(256)))}, Tag: digest(byte(rnd.Intn(256)))}
	}
	return a
}

// TestAnswerDrawn: P18.3, of responses with drawn fields, some of them strange.
func TestAnswerDrawn(t *testing.T) {
	rnd := rand.New(rand.NewSource(187))
	no := strangeTokens()
	met := map[api.Errno]int{}
	for range 10000 {
		a := someResponse(rnd)
		switch rnd.Intn(12) {
		case 0:
			a.Token = pick(rnd, no[pick(rnd, []api.Errno{api.ErrMany, api.ErrArg})])
		case 1:
			a.Head.Head.Tree = pick(rnd, strange)
		case 2:
			a.Head.Head.Epoch = pick(rnd, strangeEpochs())
		case 3:
			a.Why = api.Errno(pick(rnd, strange))
		case 4:
			a.Bytes = make([]byte, 65530+rnd.Intn(12))
		case 5:
			a.Hashes = make([]api.Digest, 250+rnd.Intn(12))
		}
		_, why := wantedAnswer(a)
		met[why]++
		wantAnswer(t, a)
	}
	for _, why := range []api.Errno{api.OK, api.ErrArg, api.ErrLong, api.ErrMany} {
		if met[why] < 200 {
			t.Errorf("%v: the test tells too little", met)
		}
	}
}
