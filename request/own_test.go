package request_test

import (
	"bytes"
	"errors"
	"math/rand"
	"reflect"
	"slices"
	"testing"

	"deponent/api"
	"deponent/codec"
	"deponent/request"
)

// roomy is l with room behind it that is filled, and the whole of its memory.
func roomy[T any](l []T, fill T) (list, whole []T) {
	whole = slices.Concat(l, slices.Repeat([]T{fill}, 300))
	return whole[:len(l)], whole
}

// spoil writes x over all of a list, its spare room too.
func spoil[T any](l []T, x T) {
	l = l[:cap(l)]
	for i := range l {
		l[i] = x
	}
}

// spoilRequest changes all lists of r, their spare room too.
func spoilRequest(r api.Request) {
	spoil(r.Leaf, 0x5a)
	spoil(r.Token.Caveats, api.Caveat{Kind: 77, N: 77})
}

// spoilResponse changes all lists of a, their spare room too.
func spoilResponse(a api.Response) {
	spoil(a.Bytes, 0x5a)
	spoil(a.Hashes, digest(0x5a))
	spoil(a.Token.Caveats, api.Caveat{Kind: 77, N: 77})
}

// copyOfRequest shares nothing with r.
func copyOfRequest(r api.Request) api.Request {
	r.Leaf = append([]byte{}, r.Leaf...)
	r.Token.Caveats = append([]api.Caveat{}, r.Token.Caveats...)
	return r
}

// copyOfResponse shares nothing with a.
func copyOfResponse(a api.Response) api.Response {
	a.Bytes = append([]byte{}, a.Bytes...)
	a.Hashes = append([]api.Digest{}, a.Hashes...)
	a.Token.Caveats = append([]api.Caveat{}, a.Token.Caveats...)
	return a
}

// strangeRequests are refused, for each reason.
func strangeRequests() []api.Request {
	five := slices.Repeat([]api.Caveat{{Kind: 1}}, 5)
	return []api.Request{
		{Op: 13, Leaf: []byte("leaf")}, {Op: api.Add, Tree: 256, Leaf: []byte("leaf")}, {Op: api.Add, Leaf: bytes.Repeat([]byte{7}, 257)},
		{Op: api.Look, Token: api.Token{Caveats: five}}, {Op: api.Add, Leaf: []byte("leaf"), Token: api.Token{Caveats: []api.Caveat{{Kind: 9}}}},
	}
}

// strangeResponses are refused, for each reason.
func strangeResponses() []api.Response {
	five := slices.Repeat([]api.Caveat{{Kind: 1}}, 5)
	return []api.Response{
		{Hashes: digests(256), Bytes: []byte("some")}, {Token: api.Token{Caveats: five}, Hashes: digests(3)}, {Bytes: bytes.Repeat([]byte{7}, 65536), Hashes: digests(3)},
		{Why: -1, Bytes: []byte("some"), Hashes: digests(3)}, {Head: api.Signed{Head: api.Head{Tree: 256}}, Bytes: []byte("some")}, {Token: api.Token{Caveats: []api.Caveat{{Kind: 9}}}, Hashes: digests(3)},
	}
}

// TestRequestIsLeft: R2, R5, Body and Encode change nothing of a request, nor the room behind its lists, be it refused or not; nor do answers hang on that room.
func TestRequestIsLeft(t *testing.T) {
	for _, r := range append(requests(), strangeRequests()...) {
		x := r
		var leaf []byte
		var caveats []api.Caveat
		x.Leaf, leaf = roomy(r.Leaf, 0xa5)
		x.Token.Caveats, caveats = roomy(r.Token.Caveats, api.Caveat{Kind: api.Until, N: 0xa5a5})
		leafWas, caveatsWas := slices.Clone(leaf), slices.Clone(caveats)
		wantBody(t, x)
		wantRequest(t, x)
		if !bytes.Equal(leaf, leafWas) || !slices.Equal(caveats, caveatsWas) {
			t.Fatalf("%+v was changed", r)
		}
	}
}

// TestResponseIsLeft: R2, R5, Answer changes nothing of a response, nor the room behind its lists, be it refused or not; nor does the answer hang on that room.
func TestResponseIsLeft(t *testing.T) {
	for _, a := range append(responses(), strangeResponses()...) {
		x := a
		var some []byte
		var hashes []api.Digest
		var caveats []api.Caveat
		x.Bytes, some = roomy(a.Bytes, 0xa5)
		x.Hashes, hashes = roomy(a.Hashes, digest(0xa5))
		x.Token.Caveats, caveats = roomy(a.Token.Caveats, api.Caveat{Kind: api.Until, N: 0xa5a5})
		someWas, hashesWas, caveatsWas := slices.Clone(some), slices.Clone(hashes), slices.Clone(caveats)
		wantAnswer(t, x)
		if !bytes.Equal(some, someWas) || !slices.Equal(hashes, hashesWas) || !slices.Equal(caveats, caveatsWas) {
			t.Fatalf("%+v was changed", a)
		}
	}
}

// TestBytesAreLeft: R2, R5, Decode and Read change no bytes, nor the room behind them, be they refused or not, keep none of them, and do not read that room.
func TestBytesAreLeft(t *testing.T) {
	for _, r := range requests() {
		b := mustEncode(t, r)
		for _, n := range []int{0, 1, 2, 20, len(b) - 1, len(b)} {
			whole := slices.Concat(b, bytes.Repeat([]byte{0xa5}, 100))
			was := slices.Clone(whole)
			q, err := request.Decode(whole[:n])
			if !bytes.Equal(whole, was) {
				t.Fatalf("%x was changed: %x", was, whole)
			}
			spoil(whole, 0x5a)
			if n < len(b) {
				wantRefusal(t, b[:n], err, n, api.ErrEnd)
			} else if err != nil || !sameRequest(q, left(r)) {
				t.Fatalf("%x: %+v, %v, hang on room or on what was handed in", b, q, err)
			}
		}
	}
	for _, a := range responses() {
		b := mustAnswer(t, a)
		for _, n := range []int{0, 1, 2, 12, len(b) - 1, len(b)} {
			whole := slices.Concat(b, bytes.Repeat([]byte{0xa5}, 100))
			was := slices.Clone(whole)
			c, err := request.Read(whole[:n])
			if !bytes.Equal(whole, was) {
				t.Fatalf("%x was changed: %x", was, whole)
			}
			spoil(whole, 0x5a)
			if n < len(b) {
				wantRefusal(t, b[:n], err, n, api.ErrEnd)
			} else if err != nil || !sameResponse(c, a) {
				t.Fatalf("%x: %+v, %v, hang on room or on what was handed in", b, c, err)
			}
		}
	}
}

// TestBytesAreNew: R2, bytes that were answered are memory of their own, their spare room too: neither another answer nor what was handed in changes with them, nor they with it.
func TestBytesAreNew(t *testing.T) {
	write := map[string]func(api.Request) ([]byte, api.Errno){"Body": request.Body, "Encode": request.Encode}
	for name, f := range write {
		for _, r := range requests() {
			x, was := copyOfRequest(r), copyOfRequest(r)
			first, _ := f(x)
			second, _ := f(x)
			want := slices.Clone(first)
			spoil(first, 0x5a)
			if third, _ := f(x); !bytes.Equal(second, want) || !bytes.Equal(third, want) || !sameRequest(x, was) {
				t.Fatalf("%s(%+v): answers share memory", name, r)
			}
			spoilRequest(x)
			if !bytes.Equal(second, want) {
				t.Fatalf("%s(%+v): the answer shares memory with what was handed in", name, r)
			}
		}
	}
	for _, a := range responses() {
		x, was := copyOfResponse(a), copyOfResponse(a)
		first, second := mustAnswer(t, x), mustAnswer(t, x)
		want := slices.Clone(first)
		spoil(first, 0x5a)
		if !bytes.Equal(second, want) || !bytes.Equal(mustAnswer(t, x), want) || !sameResponse(x, was) {
			t.Fatalf("Answer(%+v): answers share memory", a)
		}
		spoilResponse(x)
		if !bytes.Equal(second, want) {
			t.Fatalf("Answer(%+v): the answer shares memory with what was handed in", a)
		}
	}
}

// TestDecodedAreNew: R2, a request that was answered is memory of its own, and so is each of its lists.
func TestDecodedAreNew(t *testing.T) {
	for _, r := range requests() {
		b := mustEncode(t, r)
		was := slices.Clone(b)
		first, second := mustDecode(t, b), mustDecode(t, b)
		spoil(first.Leaf, 0x5a)
		if first.Leaf = nil; !slices.Equal(first.Token.Caveats, r.Token.Caveats) {
			t.Fatalf("%x: its Leaf and its Caveats share memory", b)
		}
		spoilRequest(first)
		if !sameRequest(second, left(r)) || !bytes.Equal(b, was) || !sameRequest(mustDecode(t, b), left(r)) {
			t.Fatalf("%x: requests share memory", b)
		}
	}
}

// TestReadAreNew: R2, a response that was answered is memory of its own, and so is each of its lists.
func TestReadAreNew(t *testing.T) {
	for _, a := range responses() {
		b := mustAnswer(t, a)
		was := slices.Clone(b)
		for i := range 3 {
			first, second := mustRead(t, b), mustRead(t, b)
			want := copyOfResponse(a)
			switch i {
			case 0:
				spoil(first.Bytes, 0x5a)
				first.Bytes, want.Bytes = nil, nil
			case 1:
				spoil(first.Hashes, digest(0x5a))
				first.Hashes, want.Hashes = nil, nil
			case 2:
				spoil(first.Token.Caveats, api.Caveat{Kind: 77})
				first.Token.Caveats, want.Token.Caveats = nil, nil
			}
			if !sameResponse(first, want) {
				t.Fatalf("%x: lists of one response share memory", b)
			}
			spoilResponse(first)
			if !sameResponse(second, a) || !bytes.Equal(b, was) || !sameResponse(mustRead(t, b), a) {
				t.Fatalf("%x: responses share memory", b)
			}
		}
	}
}

// TestAppendToAnswers: R2, who puts something behind bytes that were answered changes no other ones.
func TestAppendToAnswers(t *testing.T) {
	for _, r := range requests() {
		want := mustEncode(t, r)
		first, second := mustEncode(t, r), mustEncode(t, r)
		longer, other := append(first, 7, 7), append(second, 8, 8)
		if !bytes.Equal(longer, append(slices.Clone(want), 7, 7)) || !bytes.Equal(other, append(slices.Clone(want), 8, 8)) {
			t.Fatalf("%+v: %x and %x", r, longer, other)
		}
	}
}

// TestRefusalsAreNew: R2, a refusal that was changed changes no other one.
func TestRefusalsAreNew(t *testing.T) {
	calls := map[string]func([]byte) error{
		"Decode": func(b []byte) error { _, err := request.Decode(b); return err },
		"Read":   func(b []byte) error { _, err := request.Read(b); return err },
	}
	for name, f := range calls {
		for _, b := range [][]byte{nil, {0, 37}, {0, 78}, {0, 0}, bearer(api.Token{}, 13), bearer(api.Token{}, 2, 3, 4), make([]byte, 14), append(make([]byte, 12), 4)} {
			var first, second *codec.Refusal
			if !errors.As(f(b), &first) || !errors.As(f(b), &second) || first == second {
				t.Fatalf("%s(%x): %v, %v", name, b, first, second)
			}
			was := *second
			first.At, first.Why = 77, api.ErrDisk
			var third *codec.Refusal
			if errors.As(f(b), &third); *second != was || *third != was {
				t.Errorf("%s(%x): refusals share memory", name, b)
			}
		}
	}
}

// TestNilIsEmpty: R4, nil and empty lists mean the same, those with room behind them too.
func TestNilIsEmpty(t *testing.T) {
	for _, op := range ops {
		none := api.Request{Op: op}
		want := mustEncode(t, none)
		for _, r := range []api.Request{{Op: op, Leaf: []byte{}, Token: api.Token{Caveats: []api.Caveat{}}}, {Op: op, Leaf: make([]byte, 9)[:0], Token: api.Token{Caveats: make([]api.Caveat, 9)[:0]}}} {
			if !bytes.Equal(mustEncode(t, r), want) || !sameRequest(mustDecode(t, want), none) {
				t.Errorf("%+v is not like none", r)
			}
		}
	}
	for _, a := range []api.Response{{Bytes: []byte{}, Hashes: []api.Digest{}, Token: api.Token{Caveats: []api.Caveat{}}}, {Bytes: make([]byte, 9)[:0], Hashes: make([]api.Digest, 9)[:0], Token: api.Token{Caveats: make([]api.Caveat, 9)[:0]}}} {
		for _, x := range []api.Token{{}, {Id: 7}, {Tag: digest(1)}} {
			b := a
			b.Token.Id, b.Token.Tag = x.Id, x.Tag
			if !bytes.Equal(mustAnswer(t, b), mustAnswer(t, api.Response{Token: x})) {
				t.Errorf("%+v is not like none", b)
			}
		}
	}
}

// TestAskedAgain: R4, the same calls in another order, with others between them, answer the same.
func TestAskedAgain(t *testing.T) {
	rnd := rand.New(rand.NewSource(194))
	type answer struct {
		body, all, out []byte
		why            [3]api.Errno
		r              api.Request
		a              api.Response
		errs           [2]string
		trees, admin   bool
	}
	var asked []api.Request
	var answered []api.Response
	for range 200 {
		r := someRequest(rnd, pick(rnd, append(ops, 0, 13)))
		if rnd.Intn(5) == 0 {
			r.Tree = -1
		}
		asked = append(asked, r)
		answered = append(answered, someResponse(rnd))
	}
	asked, answered = append(asked, strangeRequests()...), append(answered, strangeResponses()...)
	told := func(err error) string {
		if err == nil {
			return ""
		}
		return err.Error()
	}
	ask := func(i int) answer {
		var x answer
		r, a := asked[i%len(asked)], answered[i%len(answered)]
		x.body, x.why[0] = request.Body(r)
		x.all, x.why[1] = request.Encode(r)
		x.out, x.why[2] = request.Answer(a)
		var errs [2]error
		x.r, errs[0] = request.Decode(x.all[:len(x.all)-min(i%3, len(x.all))])
		x.a, errs[1] = request.Read(x.out[:len(x.out)-min(i%3, len(x.out))])
		x.errs = [2]string{told(errs[0]), told(errs[1])}
		x.trees, x.admin = request.Trees(r.Op), request.Admin(r.Op)
		return x
	}
	var first []answer
	for i := range asked {
		first = append(first, ask(i))
	}
	for range 5 {
		for _, i := range rnd.Perm(len(asked)) {
			if x := ask(i); !reflect.DeepEqual(x, first[i]) {
				t.Fatalf("number %d answered %+v, answers %+v", i, first[i], x)
			}
		}
	}
}
