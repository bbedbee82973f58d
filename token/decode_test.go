package token_test

import (
	"bytes"
	"encoding/binary"
	"math/rand"
	"slices"
	"testing"

	"deponent/api"
	"deponent/token"
)

// tokens are such as can be encoded, with each number of caveats.
func tokens(rnd *rand.Rand) []api.Token {
	var l []api.Token
	for n := range api.MaxCaveats + 1 {
		for _, root := range roots() {
			l = append(l, tagged(root, pick(rnd, numbers), someCaveats(rnd, n)...))
		}
		l = append(l, api.Token{Id: rnd.Uint32(), Caveats: someCaveats(rnd, n), Tag: someDigest(rnd)}, api.Token{Caveats: someCaveats(rnd, n)})
	}
	return l
}

// TestDecode: P12.3 and P12.5, of every field at its ends.
func TestDecode(t *testing.T) {
	rnd := rand.New(rand.NewSource(134))
	for _, x := range tokens(rnd) {
		if got := mustDecode(t, wantedBytes(x)); !same(got, x) {
			t.Fatalf("%+v, not %+v", got, x)
		}
	}
	for _, id := range numbers {
		for _, kind := range kinds {
			for _, number := range numbers {
				x := api.Token{Id: id, Caveats: []api.Caveat{{Kind: kind, N: number}}, Tag: someDigest(rnd)}
				if got := mustDecode(t, wantedBytes(x)); !same(got, x) {
					t.Fatalf("%+v, not %+v", got, x)
				}
			}
		}
	}
}

// TestDecodeOfBeginnings: P12.3, of every beginning of a token's bytes: ErrEnd at the end of all.
func TestDecodeOfBeginnings(t *testing.T) {
	for _, x := range tokens(rand.New(rand.NewSource(135))) {
		b := wantedBytes(x)
		for n := range b {
			wantRefused(t, b[:n], n, api.ErrEnd)
		}
	}
	wantRefused(t, nil, 0, api.ErrEnd)
	wantRefused(t, []byte{}, 0, api.ErrEnd)
}

// TestDecodeOfMore: P12.3, of bytes behind a token's: ErrTail where they begin.
func TestDecodeOfMore(t *testing.T) {
	rnd := rand.New(rand.NewSource(136))
	for _, x := range tokens(rnd) {
		b := wantedBytes(x)
		for last := range 256 {
			wantRefused(t, append(slices.Clone(b), byte(last)), len(b), api.ErrTail)
		}
		wantRefused(t, slices.Concat(b, b), len(b), api.ErrTail)
		wantRefused(t, slices.Concat(b, make([]byte, 5000)), len(b), api.ErrTail)
	}
}

// TestDecodeOfCounts: P12.3, each count that a byte can say: ErrMany behind it, whatever follows, nothing too; else as many caveats are read.
func TestDecodeOfCounts(t *testing.T) {
	rnd := rand.New(rand.NewSource(137))
	for count := range 256 {
		head := []byte{1, 2, 3, 4, byte(count)}
		var caveats []byte
		for _, c := range someCaveats(rnd, count) {
			caveats = append(caveats, wantedCaveat(c)...)
		}
		right := slices.Concat(head, caveats, make([]byte, 32))
		if count <= api.MaxCaveats {
			if x := mustDecode(t, right); len(x.Caveats) != count || x.Id != 0x01020304 {
				t.Fatalf("count %d: %+v", count, x)
			}
			wantRefused(t, slices.Concat(head, caveats), 5+5*count, api.ErrEnd)
			continue
		}
		for _, b := range [][]byte{head, right, append(slices.Clone(right), 7), append(slices.Clone(head), 0), append(slices.Clone(head), 9, 9), slices.Concat(head, make([]byte, 32))} {
			wantRefused(t, b, 5, api.ErrMany)
		}
	}
}

// TestDecodeOfAnotherCount: P12.3, a count that is not that of the caveats moves what is read.
func TestDecodeOfAnotherCount(t *testing.T) {
	x := tagged(roots()[2], 7, few...)
	for i := range x.Tag {
		x.Tag[i] = api.OnTree
	}
	for n := range api.MaxCaveats + 1 {
		x.Caveats = few[:n]
		for count := range api.MaxCaveats + 1 {
			b := wantedBytes(x)
			b[4] = byte(count)
			switch {
			case count < n:
				wantRefused(t, b, 37+5*count, api.ErrTail)
			case count > n:
				wantRefused(t, b, len(b), api.ErrEnd)
			default:
				if !same(mustDecode(t, b), x) {
					t.Fatalf("%d caveats: %x", n, b)
				}
			}
		}
	}
}

// TestDecodeOfKinds: P12.3, each Kind that a byte can say, at each place: ErrForm behind it, whatever follows, nothing too, and though a Kind further on is none as well.
func TestDecodeOfKinds(t *testing.T) {
	rnd := rand.New(rand.NewSource(138))
	for n := 1; n <= api.MaxCaveats; n++ {
		for i := range n {
			for kind := range 256 {
				x := api.Token{Id: rnd.Uint32(), Caveats: someCaveats(rnd, n), Tag: someDigest(rnd)}
				x.Caveats[i].Kind = kind
				b := wantedBytes(x)
				if slices.Contains(kinds, kind) {
					if got := mustDecode(t, b); !same(got, x) {
						t.Fatalf("%+v, not %+v", got, x)
					}
					continue
				}
				behind := 5 + 5*i + 1
				for end := behind; end <= len(b); end++ {
					wantRefused(t, b[:end], behind, api.ErrForm)
				}
				wantRefused(t, append(slices.Clone(b), 0), behind, api.ErrForm)
				wantRefused(t, b[:behind-1], behind-1, api.ErrEnd)
				for j := i + 1; j < n; j++ {
					b[5+5*j] = 0xee
				}
				wantRefused(t, b, behind, api.ErrForm)
			}
		}
	}
}

// byWords decodes as the chapter says it, by places alone: what was refused, and where, or OK.
func byWords(b []byte) (x api.Token, at int, why api.Errno) {
	if len(b) < 5 {
		return api.Token{}, len(b), api.ErrEnd
	}
	count := int(b[4])
	if count > 4 {
		return api.Token{}, 5, api.ErrMany
	}
	x.Id = binary.BigEndian.Uint32(b)
	place := 5
	for range count {
		if place == len(b) {
			return api.Token{}, len(b), api.ErrEnd
		}
		kind := int(b[place])
		if kind < 1 || kind > 3 {
			return api.Token{}, place + 1, api.ErrForm
		}
		if len(b) < place+5 {
			return api.Token{}, len(b), api.ErrEnd
		}
		x.Caveats = append(x.Caveats, api.Caveat{Kind: kind, N: binary.BigEndian.Uint32(b[place+1:])})
		place += 5
	}
	if len(b) < place+32 {
		return api.Token{}, len(b), api.ErrEnd
	}
	x.Tag = api.Digest(b[place:])
	if len(b) > place+32 {
		return api.Token{}, place + 32, api.ErrTail
	}
	return x, 0, api.OK
}

// someBytes are bytes that are a token's, or nearly so, or any.
func someBytes(r *rand.Rand) []byte {
	b := make([]byte, r.Intn(70))
	for i := range b {
		b[i] = byte(r.Intn(6))
	}
	if r.Intn(8) == 0 {
		return b
	}
	b = wantedBytes(api.Token{Id: r.Uint32(), Caveats: someCaveats(r, r.Intn(6)), Tag: someDigest(r)})
	for range r.Intn(3) {
		switch i := r.Intn(len(b)); r.Intn(4) {
		case 0:
			b[i] = byte(r.Intn(256))
		case 1:
			b[min(4+5*r.Intn(3), len(b)-1)] = byte(r.Intn(6))
		case 2:
			b = slices.Insert(b, i, byte(r.Intn(256)))
		case 3:
			b = slices.Delete(b, i, min(i+1+r.Intn(6), len(b)))
			b = append(b, 1)
		}
	}
	return b
}

// TestDecodeByWords: P12.3 and P12.5, of any bytes: they are refused as the words say, or what is decoded is encoded to them.
func TestDecodeByWords(t *testing.T) {
	rnd := rand.New(rand.NewSource(139))
	met := map[api.Errno]int{}
	for range 20000 {
		b := someBytes(rnd)
		want, at, why := byWords(b)
		met[why]++
		if why != api.OK {
			wantRefused(t, b, at, why)
			continue
		}
		x := mustDecode(t, b)
		if !same(x, want) || !bytes.Equal(mustEncode(t, x), b) {
			t.Fatalf("%x: %+v, not %+v", b, x, want)
		}
	}
	for _, why := range []api.Errno{api.OK, api.ErrEnd, api.ErrTail, api.ErrMany, api.ErrForm} {
		if met[why] < 200 {
			t.Errorf("%v: the test tells too little", met)
		}
	}
}

// FuzzDecode: likewise, of bytes that a fuzzer finds.
func FuzzDecode(f *testing.F) {
	for _, x := range tokens(rand.New(rand.NewSource(140))) {
		f.Add(wantedBytes(x))
	}
	f.Fuzz(func(t *testing.T, b []byte) {
		want, at, why := byWords(b)
		if why != api.OK {
			wantRefused(t, b, at, why)
			return
		}
		if x, _ := token.Decode(b); !same(x, want) || !bytes.Equal(mustEncode(t, x), b) {
			t.Fatalf("%x: %+v, not %+v", b, x, want)
		}
	})
}
