package kv_test

import (
	"fmt"
	"math/rand"
	"strings"
	"testing"

	"deponent/api"
	"deponent/kv"
)

// TestAllSpaces: P7.3, P7.4, one key in each of the 256 spaces, and another one that begins with it; each has its own value, and goes for itself.
func TestAllSpaces(t *testing.T) {
	d, s := fresh(t, api.MaxStore)
	want := book{}
	for n := range 256 {
		space := byte(n * 77)
		l := []kv.Change{put(space, "k", fmt.Sprint(space)), put(space, "kk", fmt.Sprint("more ", space))}
		wantDo(t, "each space", s, api.OK, l...)
		want = want.with(l...)
	}
	wantBook(t, "all spaces", opened(t, d, 0), want)
	for n := range 256 {
		c := drop(byte(n*51), "k")
		wantDo(t, "each space", s, api.OK, c)
		want = want.with(c)
		wantGet(t, "dropped", s, c.Space, "k", "", false)
		wantGet(t, "dropped", s, c.Space, "kk", want[name{c.Space, "kk"}], true)
		wantGet(t, "another space", s, c.Space+51, "k", want[name{c.Space + 51, "k"}], n < 255)
		wantUsed(t, "dropped", s, want.used())
	}
	wantBook(t, "all spaces, dropped", opened(t, d, 0), want)
}

// TestKeysOfAnyBytes: P7.3, P7.4, keys that look like those of other spaces: of bytes 0 and 255, of a space's own number, keys that begin others.
func TestKeysOfAnyBytes(t *testing.T) {
	d, s := fresh(t, api.MaxStore)
	want := book{}
	for _, space := range []byte{0, 1, 2, 127, 128, 253, 254, 255} {
		var l []kv.Change
		for i, key := range []string{"\x00", "\x00\x00", "\x00\xff", "\x01", "\x01\x00", "\x01\x01", "\x02", "\x7f\xff", "\x80", "\xfe", "\xfe\xff", "\xff", "\xff\x00", "\xff\xff", "\xff\xff\xff", letters(38) + "\x00", letters(38) + "\xff", strings.Repeat("\x00", 39), strings.Repeat("\xff", 39)} {
			l = append(l, put(space, key, fmt.Sprint(space, i)))
		}
		wantDo(t, "any bytes", s, api.OK, l...)
		want = want.with(l...)
	}
	wantBook(t, "any bytes", s, want)
	for n := range want {
		wantRange(t, s, want, n.space, n.key)
		c := drop(n.space, n.key)
		wantDo(t, "any bytes", s, api.OK, c)
		want = want.with(c)
		if len(want)%20 == 0 {
			wantBook(t, "any bytes, dropped", opened(t, d, 0), want)
		}
	}
}

// TestLastSpace: P7.3, P7.4, the first and the last space, with others beside them or alone.
func TestLastSpace(t *testing.T) {
	for _, all := range []book{
		{{0, "a"}: "1"}, {{255, "a"}: "1"}, {{0, "\xff"}: "1", {1, "\x00"}: "2"}, {{254, "\xff"}: "1", {255, "\x00"}: "2"},
		{{0, "\x00"}: "1", {255, "\xff"}: "2"}, {{254, "\xff\xff"}: "1"}, {{255, "\xff\xff"}: "1"},
	} {
		s := opened(t, holding(t, all), 0)
		for _, space := range []byte{0, 1, 254, 255} {
			for _, from := range []string{"", "\x00", "\x01", "a", "\xff", "\xff\xff", "\xff\xff\xff"} {
				wantRange(t, s, all, space, from)
			}
		}
	}
}

// TestOtherSpacesStay: P7.4, whatever is done in one space, refused or not, no call tells another space's pairs otherwise.
func TestOtherSpacesStay(t *testing.T) {
	r := rand.New(rand.NewSource(7))
	for _, space := range []byte{0, 8, 9, 255} {
		d, want := large(t)
		want = want.with(put(0, "\xff", "first"), put(255, "\x00", "last"), put(8, "k", "8"), put(9, "k", "9"))
		wantDo(t, "ahead", opened(t, d, api.MaxStore), api.OK, put(0, "\xff", "first"), put(255, "\x00", "last"), put(8, "k", "8"), put(9, "k", "9"))
		s := opened(t, d, want.used()+2000)
		full := 0
		for range 60 {
			var l []kv.Change
			for range 1 + r.Intn(8) {
				key := []string{"k", "\x00", "\xff", "\xff\xff", fmt.Sprint(r.Intn(20)), letters(1 + r.Intn(39))}[r.Intn(6)]
				if r.Intn(3) == 0 {
					l = append(l, drop(space, key))
				} else {
					l = append(l, put(space, key, letters(r.Intn(401))))
				}
			}
			switch why := s.Do(l...); why {
			case api.OK:
				want = want.with(l...)
			case api.ErrFull:
				full++
			default:
				t.Fatalf("Do: %v", why)
			}
			wantBook(t, fmt.Sprint("changes in space ", space), s, want)
		}
		if full == 0 || full > 55 {
			t.Fatalf("%d of 60 were refused", full)
		}
	}
}
