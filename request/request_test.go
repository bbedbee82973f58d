package request_test

import (
	"bytes"
	"encoding/binary"
	"errors"
	"math"
	"math/bits"
	"math/rand"
	"reflect"
	"slices"
	"strconv"
	"strings"
	"testing"

	"deponent/api"
	"deponent/codec"
	"deponent/request"
	"deponent/token"
)

// The form of the package's face.
var (
	_ func(api.Request) ([]byte, api.Errno)  = request.Encode
	_ func([]byte) (api.Request, error)      = request.Decode
	_ func(api.Request) ([]byte, api.Errno)  = request.Body
	_ func(api.Response) ([]byte, api.Errno) = request.Answer
	_ func([]byte) (api.Response, error)     = request.Read
	_ func(int) bool                         = request.Trees
	_ func(int) bool                         = request.Admin
)

const half = 1 << (bits.UintSize / 2)

// chapter is what the chapter says of each operation's body: the fields behind Op, with their bytes.
var chapter = map[int]string{
	api.Add:     "Tree 1, Leaf 0",
	api.Look:    "Tree 1",
	api.Rotate:  "Tree 1",
	api.Entry:   "Tree 1, From 8",
	api.Prove:   "Tree 1, From 8, To 8",
	api.Compare: "Tree 1, From 8, To 8",
	api.Create:  "Tree 1, Tenant 1, Weight 1",
	api.Change:  "Tree 1, State 1",
	api.Weigh:   "Tree 1, Weight 1",
	api.Grant:   "Tenant 1, Role 1, Expires 8",
	api.Revoke:  "Id 4",
	api.Limit:   "Tenant 1, Rate 4, Burst 4, Store 4",
}

// field is one of a body: its name in api.Request, and how many bytes it has (a Leaf 0).
type field struct {
	name string
	size int
}

// fieldsOf are the chapter's of an operation, nil if there is no such.
func fieldsOf(op int) []field {
	var l []field
	for _, s := range strings.Split(chapter[op], ", ") {
		if name, size, ok := strings.Cut(s, " "); ok {
			n, _ := strconv.Atoi(size)
			l = append(l, field{name, n})
		}
	}
	return l
}

// has tells whether the chapter gives an operation that field.
func has(op int, name string) bool {
	return slices.ContainsFunc(fieldsOf(op), func(f field) bool { return f.name == name })
}

// ops are all operations.
var ops = []int{api.Add, api.Look, api.Entry, api.Prove, api.Compare, api.Create, api.Change, api.Weigh, api.Rotate, api.Grant, api.Revoke, api.Limit}

// strangeOps are none: about those that are, below 0, above a byte, at the ends of int, and those whose lowest bytes are an operation's.
var strangeOps = []int{
	0, -1, -2, -12, -13, 13, 14, 15, 16, 31, 32, 63, 127, 128, 254, 255, 256, 257, 258, 261, 268, 269, 513, 65536, 65537, 65548, -243, -244, -250, -255, -256, -65535,
	half, half + 1, half + 2, half + 10, half + 12, -half, -half + 1, -half + 12, math.MinInt32, math.MaxInt32, math.MinInt, math.MinInt + 1, math.MinInt + 2, math.MinInt + 12, math.MaxInt - 1, math.MaxInt,
}

// smallNames are the fields of int.
var smallNames = []string{"Tree", "Tenant", "Role", "State", "Weight"}

// small are numbers that one byte tells, strange those that it does not.
var (
	small   = []int{0, 1, 2, 3, 12, 13, 15, 16, 99, 127, 128, 254, 255}
	strange = []int{
		-1, -2, -128, -254, -255, -256, -257, 256, 257, 258, 300, 511, 512, 65535, 65536, 65537, -65536,
		half - 1, half, half + 1, half + 255, -half, -half + 1, math.MinInt32, math.MaxInt32, math.MinInt, math.MinInt + 1, math.MinInt + 255, math.MaxInt - 1, math.MaxInt,
	}
)

// words and longs are numbers of four and of eight bytes: about which bytes change, and at their ends.
var (
	words = []uint32{0, 1, 2, 255, 256, 257, 65535, 65536, 1 << 24, 0x01020304, 1<<31 - 1, 1 << 31, 1<<32 - 2, 1<<32 - 1}
	longs = []uint64{0, 1, 2, 255, 256, 258, 65535, 65536, 1<<32 - 1, 1 << 32, 0x0102030405060708, 1<<63 - 1, 1 << 63, 1<<64 - 2, 1<<64 - 1}
)

// filled has every field, no two alike.
func filled(op int) api.Request {
	return api.Request{
		Op: op, Token: tagged(),
		Tree: 3, Tenant: 4, Role: 5, State: 6, Weight: 7,
		Id: 0x08090a0b, From: 0x0c0d0e0f10111213, To: 0x1415161718191a1b,
		Rate: 0x1c1d1e1f, Burst: 0x20212223, Store: 0x24252627, Expires: 0x28292a2b2c2d2e2f,
		Leaf: []byte("leaf"),
	}
}

// set is r with that field of int changed.
func set(r api.Request, name string, n int) api.Request {
	reflect.ValueOf(&r).Elem().FieldByName(name).SetInt(int64(n))
	return r
}

// digest is one of 32 bytes that are unlike.
func digest(first byte) api.Digest {
	var d api.Digest
	for i := range d {
		d[i] = first + byte(i)*7
	}
	return d
}

// tagged is a token without caveats, its bytes unlike.
func tagged() api.Token { return api.Token{Id: 0x55565758, Tag: digest(1)} }

// tokens are such as have bytes, genuine or not: zero, with one thing each that is not, with each number of caveats of each Kind.
func tokens() []api.Token {
	few := []api.Caveat{{Kind: api.OnTree, N: 3}, {Kind: api.Below, N: 1<<32 - 1}, {Kind: api.Until, N: 258}, {Kind: api.OnTree}}
	l := []api.Token{{}, {Id: 1}, {Id: 1 << 31}, {Tag: api.Digest{31: 1}}, {Caveats: few[3:]}, tagged()}
	for n := 1; n <= api.MaxCaveats; n++ {
		t := token.Mint(digest(2), 7)
		for _, c := range few[:n] {
			t, _ = token.Narrow(t, c)
		}
		l = append(l, t, api.Token{Id: 1<<32 - 1, Caveats: slices.Clone(few[4-n:]), Tag: digest(3)}, api.Token{Caveats: slices.Clone(few[:n])})
	}
	return l
}

// strangeTokens have no bytes: with too many caveats (refused by ErrMany), or with one of no Kind (by ErrArg).
func strangeTokens() map[api.Errno][]api.Token {
	known := slices.Repeat([]api.Caveat{{Kind: api.Below, N: 9}}, 300)
	l := map[api.Errno][]api.Token{}
	for _, n := range []int{5, 6, 255, 256, 257, 260, 300} {
		l[api.ErrMany] = append(l[api.ErrMany], api.Token{Caveats: known[:n]}, api.Token{Id: 7, Caveats: make([]api.Caveat, n), Tag: digest(4)})
	}
	for _, kind := range []int{0, -1, 4, 5, 255, 256, 257, 259, -255, half + 1, math.MinInt, math.MinInt + 1, math.MaxInt} {
		for n := 1; n <= api.MaxCaveats; n++ {
			for i := range n {
				x := api.Token{Id: 7, Caveats: slices.Clone(known[:n]), Tag: digest(5)}
				x.Caveats[i].Kind = kind
				l[api.ErrArg] = append(l[api.ErrArg], x)
			}
		}
	}
	return l
}

// high is the number by so many bytes, the highest first.
func high(n uint64, size int) []byte {
	return binary.BigEndian.AppendUint64(nil, n)[8-size:]
}

// text is b behind its count.
func text(b []byte) []byte { return append(high(uint64(len(b)), 2), b...) }

// wantedToken is what chapter 12 says: the bytes of a token, or why it has none.
func wantedToken(t api.Token) ([]byte, api.Errno) {
	if len(t.Caveats) > 4 {
		return nil, api.ErrMany
	}
	b := append(high(uint64(t.Id), 4), byte(len(t.Caveats)))
	for _, c := range t.Caveats {
		if c.Kind < 1 || c.Kind > 3 {
			return nil, api.ErrArg
		}
		b = append(b, byte(c.Kind))
		b = append(b, high(uint64(c.N), 4)...)
	}
	return append(b, t.Tag[:]...), api.OK
}

// wantedBody is P18.1 by its words: Op, and field by field what the chapter lists.
func wantedBody(r api.Request) ([]byte, api.Errno) {
	l := fieldsOf(r.Op)
	if l == nil {
		return nil, api.ErrArg
	}
	b := []byte{byte(r.Op)}
	for _, f := range l {
		switch v := reflect.ValueOf(r).FieldByName(f.name); v.Kind() {
		case reflect.Int:
			if v.Int() < 0 || v.Int() > 255 {
				return nil, api.ErrArg
			}
			b = append(b, byte(v.Int()))
		case reflect.Slice:
			if v.Len() > 256 {
				return nil, api.ErrLong
			}
			b = append(b, text(v.Bytes())...)
		default:
			b = append(b, high(v.Uint(), f.size)...)
		}
	}
	return b, api.OK
}

// wantedRequest is P18.1 by its words: the token as a text, and the body; what the body is refused with counts first.
func wantedRequest(r api.Request) ([]byte, api.Errno) {
	body, why := wantedBody(r)
	if why != api.OK {
		return nil, why
	}
	bearer, why := wantedToken(r.Token)
	if why != api.OK {
		return nil, why
	}
	return append(text(bearer), body...), api.OK
}

// plainToken has nil where a list is empty.
func plainToken(t api.Token) api.Token {
	if len(t.Caveats) == 0 {
		t.Caveats = nil
	}
	return t
}

// sameRequest holds two requests against each other; nil and empty lists are one.
func sameRequest(a, b api.Request) bool {
	plain := func(r api.Request) api.Request {
		if len(r.Leaf) == 0 {
			r.Leaf = nil
		}
		r.Token = plainToken(r.Token)
		return r
	}
	return reflect.DeepEqual(plain(a), plain(b))
}

// left is r without the fields that its operation does not have.
func left(r api.Request) api.Request {
	q := api.Request{Op: r.Op, Token: r.Token}
	for _, f := range fieldsOf(r.Op) {
		reflect.ValueOf(&q).Elem().FieldByName(f.name).Set(reflect.ValueOf(r).FieldByName(f.name))
	}
	return q
}

// wantBody asks for the chapter's body of r, or for its refusal and nothing beside it.
func wantBody(t *testing.T, r api.Request) {
	t.Helper()
	want, why := wantedBody(r)
	if b, no := request.Body(r); no != why || !bytes.Equal(b, want) {
		t.Fatalf("Body(%+v): %x, %v, not %x, %v", r, b, no, want, why)
	}
}

// wantRequest asks for the chapter's bytes of r, or for its refusal and nothing beside it.
func wantRequest(t *testing.T, r api.Request) {
	t.Helper()
	want, why := wantedRequest(r)
	if b, no := request.Encode(r); no != why || !bytes.Equal(b, want) {
		t.Fatalf("Encode(%+v): %x, %v, not %x, %v", r, b, no, want, why)
	}
}

// wantNoBytes asks that both Body and Encode refuse r with that number.
func wantNoBytes(t *testing.T, r api.Request, why api.Errno) {
	t.Helper()
	if b, no := request.Body(r); no != why || len(b) != 0 {
		t.Fatalf("Body(%+v): %x, %v, not %v", r, b, no, why)
	}
	if b, no := request.Encode(r); no != why || len(b) != 0 {
		t.Fatalf("Encode(%+v): %x, %v, not %v", r, b, no, why)
	}
}

func mustEncode(t *testing.T, r api.Request) []byte {
	t.Helper()
	b, why := request.Encode(r)
	if why != api.OK {
		t.Fatalf("Encode(%+v): %v", r, why)
	}
	return b
}

func mustDecode(t *testing.T, b []byte) api.Request {
	t.Helper()
	r, err := request.Decode(b)
	if err != nil {
		t.Fatalf("Decode(%x): %v", b, err)
	}
	return r
}

// errnos are all of api's numbers.
var errnos = []api.Errno{api.OK, api.ErrArg, api.ErrLong, api.ErrMany, api.ErrEnd, api.ErrTail, api.ErrForm, api.ErrDisk, api.ErrToken, api.ErrDenied, api.ErrQuota, api.ErrNone, api.ErrState, api.ErrRange, api.ErrFull, api.ErrTaken}

// wrapped is an error that has another one inside.
type wrapped struct{ inner error }

func (w wrapped) Error() string { return "request: " + w.inner.Error() }

func (w wrapped) Unwrap() error { return w.inner }

// wantRefusal asks for an error that is that *codec.Refusal, in which that number is found and no other.
func wantRefusal(t *testing.T, b []byte, err error, at int, why api.Errno) {
	t.Helper()
	no, ok := err.(*codec.Refusal)
	if !ok || no == nil || *no != (codec.Refusal{At: at, Why: why}) || no.Error() == "" {
		t.Fatalf("%x: %v, not {%d, %d}", b, err, at, why)
	}
	for _, e := range []error{err, wrapped{err}, errors.Join(errors.New("another"), wrapped{err})} {
		var found *codec.Refusal
		var number api.Errno
		if !errors.As(e, &found) || found != no || !errors.As(e, &number) || number != why {
			t.Fatalf("%x: errors.As finds %v, %v in %v", b, found, number, e)
		}
		for _, other := range errnos {
			if errors.Is(e, other) != (other == why) {
				t.Fatalf("%x: errors.Is of %d in %v: %v", b, other, e, other != why)
			}
		}
	}
}

// wantNoRequest asks that a Decode is refused at that place, and that nothing stands beside it.
func wantNoRequest(t *testing.T, b []byte, at int, why api.Errno) {
	t.Helper()
	r, err := request.Decode(b)
	if !sameRequest(r, api.Request{}) {
		t.Fatalf("Decode(%x): %+v beside %v", b, r, err)
	}
	wantRefusal(t, b, err, at, why)
}

// pick is one of a list.
func pick[T any](r *rand.Rand, l []T) T { return l[r.Intn(len(l))] }

// someBytes are up to so many, any.
func someBytes(rnd *rand.Rand, most int) []byte {
	b := make([]byte, rnd.Intn(most+1))
	rnd.Read(b)
	return b
}

// someToken has drawn fields, from their ends or any.
func someToken(rnd *rand.Rand) api.Token {
	x := api.Token{Id: pick(rnd, words)}
	for range rnd.Intn(api.MaxCaveats + 1) {
		x.Caveats = append(x.Caveats, api.Caveat{Kind: 1 + rnd.Intn(3), N: pick(rnd, words)})
	}
	if rnd.Intn(3) > 0 {
		x.Tag = digest(byte(rnd.Intn(256)))
	}
	return x
}

// someRequest has every field drawn, from their ends or any.
func someRequest(rnd *rand.Rand, op int) api.Request {
	word := func() uint32 { return pick(rnd, append(words, rnd.Uint32())) }
	long := func() uint64 { return pick(rnd, append(longs, rnd.Uint64())) }
	r := api.Request{
		Op: op, Token: someToken(rnd), Id: word(), From: long(), To: long(), Rate: word(), Burst: word(), Store: word(), Expires: long(),
		Leaf: someBytes(rnd, pick(rnd, []int{0, 3, 40, 256})),
	}
	for _, name := range smallNames {
		r = set(r, name, pick(rnd, append(small, rnd.Intn(256))))
	}
	return r
}

// TestRuns: the chapter's runs.
func TestRuns(t *testing.T) {
	for _, c := range []struct {
		r    api.Request
		want []byte
		why  api.Errno
	}{
		{api.Request{Op: api.Look, Tree: 3}, []byte{0x02, 0x03}, api.OK},
		{api.Request{Op: api.Add, Tree: 1, Leaf: []byte("a")}, []byte{0x01, 0x01, 0x00, 0x01, 0x61}, api.OK},
		{api.Request{Op: 13}, nil, api.ErrArg},
		{api.Request{Op: api.Look, Tree: 256}, nil, api.ErrArg},
	} {
		if b, why := request.Body(c.r); why != c.why || !bytes.Equal(b, c.want) {
			t.Errorf("Body(%+v): %x, %v, not %x, %v", c.r, b, why, c.want, c.why)
		}
	}
	want := []byte{0x0c, 0, 0, 0, 0, 0, 0, 0, 0, 0, 0, 0, 0}
	if b, why := request.Answer(api.Response{Why: api.ErrForm}); why != api.OK || !bytes.Equal(b, want) {
		t.Errorf("Answer of ErrForm: %x, %v, not %x", b, why, want)
	}
}

// TestExamples: the chapter's examples.
func TestExamples(t *testing.T) {
	for _, none := range [][]byte{nil, {}} {
		wantNoRequest(t, none, 0, api.ErrEnd)
	}
	b := mustEncode(t, api.Request{Op: api.Look, Tree: 3})
	wantNoRequest(t, append(b, 0), len(b), api.ErrTail)
	if request.Trees(api.Grant) {
		t.Error("Trees(Grant)")
	}
}
