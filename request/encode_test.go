package request_test

import (
	"bytes"
	"encoding/hex"
	"math/rand"
	"slices"
	"strings"
	"testing"

	"deponent/api"
	"deponent/request"
)

// TestEncodeWrittenOut: P18.1, the token as a text, and the body.
func TestEncodeWrittenOut(t *testing.T) {
	nought := strings.Repeat("00", 32)
	narrow := api.Token{Id: 7, Caveats: []api.Caveat{{Kind: api.OnTree, N: 3}, {Kind: api.Until, N: 0x01020304}}, Tag: api.Digest{0xaa, 31: 0xbb}}
	for _, c := range []struct {
		r    api.Request
		want string
	}{
		{api.Request{Op: api.Look, Tree: 3}, "0025 00000000 00" + nought + "02 03"},
		{api.Request{Op: api.Revoke, Id: 9, Token: api.Token{Id: 0x01020304}}, "0025 01020304 00" + nought + "0b 00000009"},
		{api.Request{Op: api.Add, Tree: 1, Leaf: []byte("a"), Token: narrow}, "002f 00000007 02 01 00000003 03 01020304 aa" + nought[:60] + "bb 01 01 0001 61"},
	} {
		b, why := request.Encode(c.r)
		if got := hex.EncodeToString(b); why != api.OK || got != strings.ReplaceAll(c.want, " ", "") {
			t.Errorf("%+v: %s, %v, not %s", c.r, got, why, c.want)
		}
	}
}

// TestEncode: P18.1, of every operation with every token.
func TestEncode(t *testing.T) {
	for _, op := range ops {
		for _, x := range tokens() {
			for _, r := range []api.Request{{Op: op}, filled(op), full(op)} {
				r.Token = x
				wantRequest(t, r)
				body, _ := request.Body(r)
				if b := mustEncode(t, r); !bytes.Equal(b[len(b)-len(body):], body) || len(b) != 2+37+5*len(x.Caveats)+len(body) {
					t.Fatalf("Encode(%+v): %x, with the body %x", r, b, body)
				}
			}
		}
	}
}

// TestEncodeOfStrangeTokens: P18.1, what token.Encode refuses, with its number.
func TestEncodeOfStrangeTokens(t *testing.T) {
	for want, l := range strangeTokens() {
		for _, x := range l {
			for _, op := range ops {
				r := filled(op)
				r.Token = x
				if b, why := request.Encode(r); why != want || len(b) != 0 {
					t.Fatalf("Encode(%+v): %x, %v, not %v", r, b, why, want)
				}
			}
		}
	}
}

// TestEncodeFirstRefusal: P18.1, what the body is refused with counts ahead of what the token is, and of the token's ErrMany ahead of ErrArg.
func TestEncodeFirstRefusal(t *testing.T) {
	long := make([]byte, api.MaxLeaf+1)
	for _, l := range strangeTokens() {
		for _, x := range l {
			wantNoBytes(t, api.Request{Token: x}, api.ErrArg)
			wantNoBytes(t, api.Request{Op: 13, Token: x}, api.ErrArg)
			wantNoBytes(t, api.Request{Op: api.Look, Tree: 256, Token: x}, api.ErrArg)
			wantNoBytes(t, api.Request{Op: api.Limit, Tenant: -1, Token: x}, api.ErrArg)
			wantNoBytes(t, api.Request{Op: api.Add, Tree: -1, Leaf: long, Token: x}, api.ErrArg)
			wantNoBytes(t, api.Request{Op: api.Add, Leaf: long, Token: x}, api.ErrLong)
		}
	}
	both := api.Token{Caveats: slices.Repeat([]api.Caveat{{Kind: 9}}, 5)}
	if b, why := request.Encode(api.Request{Op: api.Look, Token: both}); why != api.ErrMany || len(b) != 0 {
		t.Errorf("too many caveats of no Kind: %x, %v", b, why)
	}
}

// TestEncodeRefusesWhatBodyDoes: P18.1, strange numbers and long leaves, as of Body.
func TestEncodeRefusesWhatBodyDoes(t *testing.T) {
	for _, op := range append(slices.Clone(ops), strangeOps...) {
		for _, n := range append(slices.Clone(small), strange...) {
			for _, name := range smallNames {
				wantRequest(t, set(filled(op), name, n))
			}
		}
		for _, n := range []int{0, 1, 255, 256, 257, 65536} {
			r := filled(op)
			r.Leaf = make([]byte, n)
			wantRequest(t, r)
		}
	}
}

// TestEncodeDrawn: P18.1, of requests with drawn fields, some of them strange, with any token.
func TestEncodeDrawn(t *testing.T) {
	rnd := rand.New(rand.NewSource(183))
	no := strangeTokens()
	met := map[api.Errno]int{}
	for range 20000 {
		r := someRequest(rnd, pick(rnd, append(ops, pick(rnd, strangeOps))))
		if rnd.Intn(4) == 0 {
			r.Token = pick(rnd, no[pick(rnd, []api.Errno{api.ErrMany, api.ErrArg})])
		}
		if rnd.Intn(6) == 0 {
			r = set(r, pick(rnd, smallNames), pick(rnd, strange))
		}
		if rnd.Intn(3) == 0 {
			r.Leaf = make([]byte, 250+rnd.Intn(20))
		}
		_, why := wantedRequest(r)
		met[why]++
		wantRequest(t, r)
	}
	for _, why := range []api.Errno{api.OK, api.ErrArg, api.ErrLong, api.ErrMany} {
		if met[why] < 200 {
			t.Errorf("%v: the test tells too little", met)
		}
	}
}
