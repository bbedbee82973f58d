package request_test

import (
	"bytes"
	"encoding/hex"
	"math/rand"
	"slices"
	"strings"
	"testing"

	"deponent/api"
	"deponent/request"
)

// wantDecoded asks for what the chapter's words make of b: the request, or a refusal with its place.
func wantDecoded(t *testing.T, b []byte) api.Errno {
	t.Helper()
	want, no := requestOf(b)
	if no.why != api.OK {
		wantNoRequest(t, b, no.at, no.why)
		return no.why
	}
	if r := mustDecode(t, b); !sameRequest(r, want) {
		t.Fatalf("Decode(%x): %+v, not %+v", b, r, want)
	}
	return api.OK
}

// requests are of every operation, with every token, with nothing, with unlike fields, with full ones.
func requests() []api.Request {
	var l []api.Request
	for _, op := range ops {
		for i, x := range tokens() {
			r := []api.Request{{Op: op}, filled(op), full(op)}[i%3]
			r.Token = x
			l = append(l, r)
		}
	}
	return l
}

// bearer is the text of a token, ahead of so many bytes that come behind it.
func bearer(x api.Token, behind ...byte) []byte {
	b, _ := wantedToken(x)
	return append(text(b), behind...)
}

// TestDecodeWrittenOut: P18.2, a request of each kind of field, and no field besides.
func TestDecodeWrittenOut(t *testing.T) {
	nought := strings.Repeat("00", 32)
	for _, c := range []struct {
		b    string
		want api.Request
	}{
		{"0025 00000007 00" + nought + "02 03", api.Request{Op: api.Look, Tree: 3, Token: api.Token{Id: 7}}},
		{"0025 00000000 00" + nought + "01 ff 0002 6162", api.Request{Op: api.Add, Tree: 255, Leaf: []byte("ab")}},
		{"002a 00000007 01 02 00000005 01" + nought[2:] + "05 03 0000000000000102 0000000000000103", api.Request{
			Op: api.Compare, Tree: 3, From: 258, To: 259, Token: api.Token{Id: 7, Caveats: []api.Caveat{{Kind: api.Below, N: 5}}, Tag: api.Digest{1}},
		}},
		{"0025 00000000 00" + nought + "06 01 02 03", api.Request{Op: api.Create, Tree: 1, Tenant: 2, Weight: 3}},
		{"0025 00000000 00" + nought + "07 01 02", api.Request{Op: api.Change, Tree: 1, State: 2}},
		{"0025 00000000 00" + nought + "0a 01 02 0000000000000003", api.Request{Op: api.Grant, Tenant: 1, Role: 2, Expires: 3}},
		{"0025 00000000 00" + nought + "0b 01020304", api.Request{Op: api.Revoke, Id: 0x01020304}},
		{"0025 00000000 00" + nought + "0c 01 00000002 00000003 00000004", api.Request{Op: api.Limit, Tenant: 1, Rate: 2, Burst: 3, Store: 4}},
	} {
		b, err := hex.DecodeString(strings.ReplaceAll(c.b, " ", ""))
		if err != nil {
			t.Fatal(err)
		}
		if r := mustDecode(t, b); !sameRequest(r, c.want) {
			t.Errorf("%s: %+v, not %+v", c.b, r, c.want)
		}
	}
}

// TestDecodeOfBeginnings: P18.2, of every beginning of a request's bytes: ErrEnd at the end of all, of the token's and the body's.
func TestDecodeOfBeginnings(t *testing.T) {
	for _, r := range requests() {
		b := mustEncode(t, r)
		for n := range b {
			wantNoRequest(t, b[:n], n, api.ErrEnd)
		}
		if q := mustDecode(t, b); !sameRequest(q, left(r)) {
			t.Fatalf("%+v, not %+v", q, left(r))
		}
	}
	wantNoRequest(t, nil, 0, api.ErrEnd)
	wantNoRequest(t, []byte{}, 0, api.ErrEnd)
}

// TestDecodeOfMore: P18.2, of bytes behind a request: ErrTail where they begin.
func TestDecodeOfMore(t *testing.T) {
	for i, r := range requests() {
		b := mustEncode(t, r)
		for _, more := range [][]byte{{0}, {byte(i)}, {255}, make([]byte, 300), b} {
			wantNoRequest(t, slices.Concat(b, more), len(b), api.ErrTail)
		}
	}
}

// TestDecodeOfNoOperation: P18.2, each Op that a byte tells and that is none: ErrForm behind it, whatever follows, nothing too; one that is reads on.
func TestDecodeOfNoOperation(t *testing.T) {
	for _, x := range tokens() {
		for op := range 256 {
			b := bearer(x, byte(op))
			for _, more := range [][]byte{nil, {0}, make([]byte, 13), make([]byte, 300)} {
				all := slices.Concat(b, more)
				if fieldsOf(op) == nil {
					wantNoRequest(t, all, len(b), api.ErrForm)
				} else if wantDecoded(t, all) == api.ErrForm {
					t.Fatalf("%x: ErrForm", all)
				}
			}
			wantNoRequest(t, b[:len(b)-1], len(b)-1, api.ErrEnd)
		}
	}
}

// TestDecodeOfLongTokens: P18.2, each count of the token's bytes above 77: ErrLong at its place, 0, whether they are there or not.
func TestDecodeOfLongTokens(t *testing.T) {
	for _, n := range []int{78, 79, 80, 100, 127, 128, 254, 255, 256, 257, 300, 512, 0x4d00, 0x4d01, 65534, 65535} {
		count := high(uint64(n), 2)
		for _, more := range []int{0, 1, 37, n - 1, n, n + 1, n + 2} {
			wantNoRequest(t, slices.Concat(count, make([]byte, more)), 0, api.ErrLong)
		}
		wantNoRequest(t, slices.Concat(count, make([]byte, n), []byte{2, 3}), 0, api.ErrLong)
	}
	for n := 78; n < 65536; n += 251 {
		wantNoRequest(t, high(uint64(n), 2), 0, api.ErrLong)
	}
}

// TestDecodeOfStrangeTokens: P18.2, what token.Decode refuses, of every length up to 77: ErrForm behind the token's bytes, though Op is none, or is not there.
func TestDecodeOfStrangeTokens(t *testing.T) {
	for n := range 78 {
		for first := range 7 {
			b := bytes.Repeat([]byte{byte(first)}, n)
			_, ok := tokenOf(b)
			if ok {
				continue
			}
			for _, more := range [][]byte{nil, {2}, {2, 3}, {0}, {13, 1}, make([]byte, 300)} {
				wantNoRequest(t, slices.Concat(text(b), more), 2+n, api.ErrForm)
			}
			for end := range n {
				wantNoRequest(t, text(b)[:2+end], 2+end, api.ErrEnd)
			}
		}
	}
	for _, x := range tokens() {
		b, _ := wantedToken(x)
		for n := range b {
			wantNoRequest(t, append(text(b[:n]), 2, 3), 2+n, api.ErrForm)
		}
		wantNoRequest(t, append(text(append(b, 0)), 2, 3), 2+len(b)+1, api.ErrForm)
		wantNoRequest(t, append(text(append(b, 0)), 13), 2+len(b)+1, api.ErrForm)
		whole := slices.Concat(b, make([]byte, 77-len(b)))
		wantNoRequest(t, append(text(whole), 2, 3), 79, api.ErrForm)
	}
}

// TestDecodeOfTokensCounts: P18.2, a count or a Kind in the token that is none: ErrForm behind all of the token's bytes, not where it stands.
func TestDecodeOfTokensCounts(t *testing.T) {
	for _, x := range tokens() {
		b, _ := wantedToken(x)
		for n := range 256 {
			if n == len(x.Caveats) {
				continue
			}
			other := slices.Clone(b)
			other[4] = byte(n)
			wantDecoded(t, append(text(other), 2, 3))
			if n > api.MaxCaveats {
				wantNoRequest(t, append(text(other), 2, 3), 2+len(b), api.ErrForm)
			}
		}
		for i := range x.Caveats {
			for _, kind := range []byte{0, 4, 5, 255} {
				other := slices.Clone(b)
				other[5+5*i] = kind
				wantNoRequest(t, append(text(other), 2, 3), 2+len(b), api.ErrForm)
			}
		}
	}
}

// TestDecodeOfLeaves: P18.2, a Leaf of each length up to MaxLeaf; each count above it ErrLong at its place, whether the bytes are there or not.
func TestDecodeOfLeaves(t *testing.T) {
	rnd := rand.New(rand.NewSource(184))
	for _, x := range tokens() {
		ahead := bearer(x, api.Add, 9)
		for n := range 300 {
			leaf := make([]byte, n)
			rnd.Read(leaf)
			b := slices.Concat(ahead, text(leaf))
			if n > api.MaxLeaf {
				wantNoRequest(t, b, len(ahead), api.ErrLong)
				wantNoRequest(t, append(b, 0), len(ahead), api.ErrLong)
				wantNoRequest(t, b[:len(ahead)+2], len(ahead), api.ErrLong)
				continue
			}
			if r := mustDecode(t, b); !sameRequest(r, api.Request{Op: api.Add, Token: x, Tree: 9, Leaf: leaf}) {
				t.Fatalf("Decode(%x): %+v", b, r)
			}
		}
		for _, n := range []int{511, 512, 513, 1000, 32767, 32768, 65535} {
			wantNoRequest(t, slices.Concat(ahead, text(make([]byte, n))), len(ahead), api.ErrLong)
			wantNoRequest(t, slices.Concat(ahead, high(uint64(n), 2)), len(ahead), api.ErrLong)
		}
	}
}

// TestDecodeFirstRefusal: P18.2, of two faults the one that a reading from the left meets first.
func TestDecodeFirstRefusal(t *testing.T) {
	wantNoRequest(t, append(text(make([]byte, 78)), 13), 0, api.ErrLong)
	wantNoRequest(t, append(text(make([]byte, 36)), 13), 38, api.ErrForm)
	wantNoRequest(t, append(text(make([]byte, 36)), api.Add, 1, 0xff, 0xff), 38, api.ErrForm)
	wantNoRequest(t, append(text(make([]byte, 36)), api.Look, 1, 1), 38, api.ErrForm)
	wantNoRequest(t, bearer(api.Token{}, 13, 1, 0xff, 0xff), 40, api.ErrForm)
	wantNoRequest(t, bearer(api.Token{}, api.Add, 1, 0xff, 0xff, 0, 0), 41, api.ErrLong)
	wantNoRequest(t, bearer(api.Token{}, api.Add, 1, 1), 42, api.ErrEnd)
	wantNoRequest(t, bearer(api.Token{}, api.Add, 1, 0, 1), 43, api.ErrEnd)
	wantNoRequest(t, bearer(api.Token{}, api.Add, 1, 0, 1, 0, 0), 44, api.ErrTail)
}

// nearly changes the bytes of a request or a response here and there.
func nearly(rnd *rand.Rand, b []byte) []byte {
	b = slices.Clone(b)
	for range rnd.Intn(4) {
		if len(b) == 0 {
			break
		}
		switch i := rnd.Intn(len(b)); rnd.Intn(6) {
		case 0:
			b[i] = byte(rnd.Intn(256))
		case 1:
			b[i] = byte(rnd.Intn(14))
		case 2:
			b = slices.Insert(b, i, byte(rnd.Intn(4)))
		case 3:
			b = slices.Delete(b, i, min(i+1+rnd.Intn(3), len(b)))
		case 4:
			b = append(b, byte(rnd.Intn(256)))
		case 5:
			b = b[:len(b)-rnd.Intn(min(3, len(b)))]
		}
	}
	return b
}

// TestDecodeByWords: P18.2, of bytes that are a request's, or nearly so, or any: what the chapter's words make of them.
func TestDecodeByWords(t *testing.T) {
	rnd := rand.New(rand.NewSource(185))
	met := map[api.Errno]int{}
	for range 30000 {
		b := mustEncode(t, someRequest(rnd, pick(rnd, ops)))
		switch rnd.Intn(8) {
		case 0:
			b = someBytes(rnd, 60)
		case 1:
			b = bearer(someToken(rnd), byte(rnd.Intn(14)), 1, byte(rnd.Intn(3)), byte(rnd.Intn(256)))
		}
		met[wantDecoded(t, nearly(rnd, b))]++
	}
	for _, why := range []api.Errno{api.OK, api.ErrEnd, api.ErrTail, api.ErrForm, api.ErrLong} {
		if met[why] < 200 {
			t.Errorf("%v: the test tells too little", met)
		}
	}
}

// FuzzDecode: likewise, of bytes that a fuzzer finds; what is decoded is encoded to them.
func FuzzDecode(f *testing.F) {
	for _, r := range requests() {
		b, _ := request.Encode(r)
		f.Add(b)
	}
	f.Fuzz(func(t *testing.T, b []byte) {
		if wantDecoded(t, b) == api.OK && !bytes.Equal(mustEncode(t, mustDecode(t, b)), b) {
			t.Fatalf("%x: %x", b, mustEncode(t, mustDecode(t, b)))
		}
	})
}
