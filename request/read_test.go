package request_test

import (
	"bytes"
	"encoding/hex"
	"math/rand"
	"slices"
	"strings"
	"testing"

	"deponent/api"
	"deponent/request"
)

// wantNoResponse asks that a Read is refused at that place, and that nothing stands beside it.
func wantNoResponse(t *testing.T, b []byte, at int, why api.Errno) {
	t.Helper()
	a, err := request.Read(b)
	if !sameResponse(a, api.Response{}) {
		t.Fatalf("Read(%x): %+v beside %v", b, a, err)
	}
	wantRefusal(t, b, err, at, why)
}

func mustRead(t *testing.T, b []byte) api.Response {
	t.Helper()
	a, err := request.Read(b)
	if err != nil {
		t.Fatalf("Read(%x): %v", b, err)
	}
	return a
}

// wantRead asks for what the chapter's words make of b: the response, or a refusal with its place.
func wantRead(t *testing.T, b []byte) api.Errno {
	t.Helper()
	want, no := responseOf(b)
	if no.why != api.OK {
		wantNoResponse(t, b, no.at, no.why)
		return no.why
	}
	if a := mustRead(t, b); !sameResponse(a, want) {
		t.Fatalf("Read(%x): %+v, not %+v", b, a, want)
	}
	return api.OK
}

// ahead is what stands ahead of a response's byte that tells of head and token: with a Why, an N, Bytes and Hashes, or with none of them.
func ahead(some bool) []byte {
	var a api.Response
	if some {
		a = api.Response{Why: 27, N: 9, Bytes: []byte("some"), Hashes: digests(2)}
	}
	b, _ := wantedAnswer(a)
	return b[:len(b)-1]
}

// TestReadWrittenOut: P18.3, each thing that a response has.
func TestReadWrittenOut(t *testing.T) {
	nought := strings.Repeat("00", 32)
	d := "01" + nought[2:]
	for _, c := range []struct {
		b    string
		want api.Response
	}{
		{"00 0000000000000000 0000 00 00", api.Response{}},
		{"1b 0102030405060708 0001 61 01" + d + "00", api.Response{Why: api.ErrTaken, N: 0x0102030405060708, Bytes: []byte("a"), Hashes: []api.Digest{{1}}}},
		{"00 0000000000000000 0000 00 01 03 00000004 0000000000000005 0000000000000006" + d + nought, api.Response{Head: api.Signed{Head: api.Head{Tree: 3, Epoch: 4, Size: 5, Clock: 6, Root: api.Digest{1}}}}},
		{"00 0000000000000000 0000 00 02 002a 00000007 01 02 00000005" + d, api.Response{Token: api.Token{Id: 7, Caveats: []api.Caveat{{Kind: api.Below, N: 5}}, Tag: api.Digest{1}}}},
		{"ff 0000000000000000 0000 00 03 00 7fffffff 0000000000000000 0000000000000000" + nought + d + "0025 00000001 00" + nought, api.Response{Why: 255, Head: api.Signed{Head: api.Head{Epoch: 1<<31 - 1}, Tag: api.Digest{1}}, Token: api.Token{Id: 1}}},
	} {
		b, err := hex.DecodeString(strings.ReplaceAll(c.b, " ", ""))
		if err != nil {
			t.Fatal(err)
		}
		if a := mustRead(t, b); !sameResponse(a, c.want) {
			t.Errorf("%s: %+v, not %+v", c.b, a, c.want)
		}
	}
}

// TestReadOfBeginnings: P18.3, of every beginning of a response's bytes: ErrEnd at the end of all.
func TestReadOfBeginnings(t *testing.T) {
	for _, a := range responses() {
		b := mustAnswer(t, a)
		for n := range b {
			wantNoResponse(t, b[:n], n, api.ErrEnd)
		}
		if c := mustRead(t, b); !sameResponse(c, a) {
			t.Fatalf("%+v, not %+v", c, a)
		}
	}
	wantNoResponse(t, nil, 0, api.ErrEnd)
	wantNoResponse(t, []byte{}, 0, api.ErrEnd)
}

// TestReadOfMore: P18.3, of bytes behind a response: ErrTail where they begin.
func TestReadOfMore(t *testing.T) {
	for i, a := range responses() {
		b := mustAnswer(t, a)
		for _, more := range [][]byte{{0}, {byte(i)}, {255}, make([]byte, 300), b} {
			wantNoResponse(t, slices.Concat(b, more), len(b), api.ErrTail)
		}
	}
}

// TestReadOfTold: P18.3, each byte above 3: ErrForm behind it, whatever follows, nothing too; others read on.
func TestReadOfTold(t *testing.T) {
	good := append(wantedHead(fullHead()), bearer(tagged())...)
	for _, some := range []bool{false, true} {
		b := ahead(some)
		wantNoResponse(t, b, len(b), api.ErrEnd)
		for told := range 256 {
			for _, more := range [][]byte{nil, {0}, good, good[:85], good[85:], make([]byte, 200)} {
				all := slices.Concat(b, []byte{byte(told)}, more)
				if told > 3 {
					wantNoResponse(t, all, len(b)+1, api.ErrForm)
				} else {
					wantRead(t, all)
				}
			}
		}
	}
}

// TestReadOfEpochs: P18.3, an Epoch above 2^31 - 1: ErrForm behind it, whatever follows, nothing too; up to that it is read.
func TestReadOfEpochs(t *testing.T) {
	for _, some := range []bool{false, true} {
		for _, told := range []byte{1, 3} {
			b := append(ahead(some), told, 9)
			more := wantedHead(fullHead())[5:]
			if told == 3 {
				more = append(more, bearer(tagged())...)
			}
			for _, epoch := range []uint64{1 << 31, 1<<31 + 1, 0x80ffffff, 0xff000000, 1<<32 - 2, 1<<32 - 1} {
				all := slices.Concat(b, high(epoch, 4), more)
				for _, end := range []int{len(b) + 4, len(b) + 5, len(b) + 30, len(all)} {
					wantNoResponse(t, all[:end], len(b)+4, api.ErrForm)
				}
				wantNoResponse(t, all[:len(b)+3], len(b)+3, api.ErrEnd)
			}
			for _, epoch := range []uint64{0, 1, 255, 256, 1 << 30, 1<<31 - 2, 1<<31 - 1} {
				a := mustRead(t, slices.Concat(b, high(epoch, 4), more))
				if a.Head.Head.Epoch != int(epoch) || a.Head.Head.Tree != 9 {
					t.Fatalf("epoch %d: %+v", epoch, a.Head)
				}
			}
		}
	}
}

// TestReadOfZeroHead: P18.3, a Head that is told and is zero: ErrForm behind it, whatever follows, nothing too; with any bit of it set it is read.
func TestReadOfZeroHead(t *testing.T) {
	for _, some := range []bool{false, true} {
		for _, told := range []byte{1, 3} {
			b := append(ahead(some), told)
			zero := make([]byte, 85)
			for _, more := range [][]byte{nil, {0}, bearer(tagged()), bearer(api.Token{}), {0, 1, 9}, make([]byte, 200)} {
				wantNoResponse(t, slices.Concat(b, zero, more), len(b)+85, api.ErrForm)
			}
			for n := range zero {
				wantNoResponse(t, slices.Concat(b, zero[:n]), len(b)+n, api.ErrEnd)
			}
			for bit := range 85 * 8 {
				head := slices.Clone(zero)
				head[bit/8] = 1 << (bit % 8)
				all := slices.Concat(b, head)
				if told == 3 {
					all = append(all, bearer(tagged())...)
				}
				highest := bit == 15 // of the epoch
				if why := wantRead(t, all); (why == api.OK) == highest {
					t.Fatalf("%x: %v", all, why)
				}
			}
		}
	}
}

// TestReadOfStrangeTokens: P18.3, a Token that is told and is none, or zero: ErrForm behind its bytes, whatever follows, nothing too.
func TestReadOfStrangeTokens(t *testing.T) {
	zero, _ := wantedToken(api.Token{})
	strange := [][]byte{nil, {0}, {7}, make([]byte, 36), zero, make([]byte, 38), make([]byte, 57), make([]byte, 78), make([]byte, 300), make([]byte, 65535)}
	for _, x := range tokens() {
		b, _ := wantedToken(x)
		strange = append(strange, b[:len(b)-1], append(slices.Clone(b), 0))
		for i := range x.Caveats {
			other := slices.Clone(b)
			other[5+5*i] = 4
			strange = append(strange, other)
		}
	}
	for _, some := range []bool{false, true} {
		for _, b := range [][]byte{append(ahead(some), 2), append(append(ahead(some), 3), wantedHead(fullHead())...)} {
			for _, s := range strange {
				for _, more := range [][]byte{nil, {0}, zero} {
					wantNoResponse(t, slices.Concat(b, text(s), more), len(b)+2+len(s), api.ErrForm)
				}
				if n := len(s); n > 0 {
					wantNoResponse(t, slices.Concat(b, text(s)[:n+1]), len(b)+n+1, api.ErrEnd)
				}
			}
			for bit := range 37 * 8 {
				one := slices.Clone(zero)
				one[bit/8] = 1 << (bit % 8)
				count := bit/8 == 4
				if why := wantRead(t, slices.Concat(b, text(one))); (why == api.OK) == count {
					t.Fatalf("the token %x: %v", one, why)
				}
			}
		}
	}
}

// TestReadOfBytes: P18.3, Bytes of any count: none is too long.
func TestReadOfBytes(t *testing.T) {
	rnd := rand.New(rand.NewSource(188))
	for _, n := range []int{0, 1, 77, 78, 256, 257, 32768, 65534, 65535} {
		a := api.Response{Bytes: make([]byte, n), Hashes: digests(1)}
		rnd.Read(a.Bytes)
		b, _ := wantedAnswer(a)
		if c := mustRead(t, b); !sameResponse(c, a) {
			t.Fatalf("%d bytes: %.999v", n, c)
		}
		for _, end := range []int{9, 10, 11 + n/2, 11 + n, len(b) - 1} {
			if end < len(b) {
				wantNoResponse(t, b[:end], end, api.ErrEnd)
			}
		}
	}
}

// TestReadOfHashes: P18.3, each number of Hashes, in order; with one fewer there ErrEnd, with one more ErrForm or the like.
func TestReadOfHashes(t *testing.T) {
	for n := range 256 {
		b, _ := wantedAnswer(api.Response{Hashes: digests(n)})
		if a := mustRead(t, b); !sameResponse(a, api.Response{Hashes: digests(n)}) {
			t.Fatalf("%d hashes: %.999v", n, a)
		}
		for _, count := range []int{n - 1, n + 1, 255} {
			if count >= 0 && count < 256 {
				other := slices.Clone(b)
				other[11] = byte(count)
				wantRead(t, other)
			}
		}
	}
}

// TestReadOfWhyAndN: P18.3, each Why that a byte tells, be it one of api's or not, and N.
func TestReadOfWhyAndN(t *testing.T) {
	for why := range 256 {
		for _, n := range longs {
			b := slices.Concat([]byte{byte(why)}, high(n, 8), make([]byte, 4))
			if a := mustRead(t, b); !sameResponse(a, api.Response{Why: api.Errno(why), N: n}) {
				t.Fatalf("Read(%x): %+v", b, a)
			}
		}
	}
}

// TestReadFirstRefusal: P18.3, of two faults the one that a reading from the left meets first.
func TestReadFirstRefusal(t *testing.T) {
	b := ahead(false)
	n := len(b)
	epoch := append([]byte{0, 0x80, 0, 0, 0}, make([]byte, 80)...)
	wantNoResponse(t, slices.Concat(b, []byte{7}, epoch, []byte{0, 1, 9}), n+1, api.ErrForm)
	wantNoResponse(t, slices.Concat(b, []byte{3}, epoch, []byte{0, 1, 9}), n+6, api.ErrForm)
	wantNoResponse(t, slices.Concat(b, []byte{3}, make([]byte, 85), []byte{0, 1, 9}), n+86, api.ErrForm)
	wantNoResponse(t, slices.Concat(b, []byte{3}, wantedHead(fullHead()), []byte{0, 1, 9, 9}), n+89, api.ErrForm)
	wantNoResponse(t, slices.Concat(b, []byte{1}, epoch[:20]), n+6, api.ErrForm)
	wantNoResponse(t, slices.Concat(b, []byte{0, 9}), n+1, api.ErrTail)
	wantNoResponse(t, slices.Concat(make([]byte, 9), []byte{0, 9, 4}), 12, api.ErrEnd)
}

// TestReadByWords: P18.3, of bytes that are a response's, or nearly so, or any: what the chapter's words make of them.
func TestReadByWords(t *testing.T) {
	rnd := rand.New(rand.NewSource(189))
	met := map[api.Errno]int{}
	for range 30000 {
		b := mustAnswer(t, someResponse(rnd))
		switch rnd.Intn(8) {
		case 0:
			b = someBytes(rnd, 60)
		case 1:
			b = append(ahead(rnd.Intn(2) == 0), byte(rnd.Intn(5)))
			b = append(b, make([]byte, pick(rnd, []int{0, 5, 39, 84, 85, 86, 124}))...)
		}
		met[wantRead(t, nearly(rnd, b))]++
	}
	for _, why := range []api.Errno{api.OK, api.ErrEnd, api.ErrTail, api.ErrForm} {
		if met[why] < 200 {
			t.Errorf("%v: the test tells too little", met)
		}
	}
	if met[api.ErrLong] != 0 {
		t.Errorf("%v: no count of two bytes is above 65535", met)
	}
}

// FuzzRead: likewise, of bytes that a fuzzer finds; what is read is answered by them.
func FuzzRead(f *testing.F) {
	for _, a := range responses() {
		b, _ := request.Answer(a)
		f.Add(b)
	}
	f.Fuzz(func(t *testing.T, b []byte) {
		if wantRead(t, b) == api.OK && !bytes.Equal(mustAnswer(t, mustRead(t, b)), b) {
			t.Fatalf("%x: %x", b, mustAnswer(t, mustRead(t, b)))
		}
	})
}
