package request_test

import (
	"bytes"
	"math/rand"
	"reflect"
	"slices"
	"testing"

	"deponent/api"
	"deponent/request"
)

// wantThereAndBack asks that what r is encoded to is decoded to it, but for the fields that its operation does not have, and encoded to the same bytes again.
func wantThereAndBack(t *testing.T, r api.Request) {
	t.Helper()
	b := mustEncode(t, r)
	q := mustDecode(t, b)
	if !sameRequest(q, left(r)) {
		t.Fatalf("%+v is decoded to %+v", r, q)
	}
	if c := mustEncode(t, q); !bytes.Equal(c, b) {
		t.Fatalf("%x is encoded to %x", b, c)
	}
	body, _ := request.Body(r)
	if again, why := request.Body(q); why != api.OK || !bytes.Equal(again, body) {
		t.Fatalf("the body %x has become %x", body, again)
	}
}

// TestDecodeOfEncode: P18.5, of every operation with every token, and of drawn ones.
func TestDecodeOfEncode(t *testing.T) {
	for _, r := range requests() {
		wantThereAndBack(t, r)
	}
	rnd := rand.New(rand.NewSource(190))
	for range 5000 {
		for _, op := range ops {
			wantThereAndBack(t, someRequest(rnd, op))
		}
	}
}

// TestDecodeOfEncodeSmall: P18.5, each number of int that a byte tells, in each field that an operation has.
func TestDecodeOfEncodeSmall(t *testing.T) {
	for _, op := range ops {
		for _, name := range smallNames {
			for n := range 256 {
				r := set(filled(op), name, n)
				wantThereAndBack(t, r)
				got := reflect.ValueOf(mustDecode(t, mustEncode(t, r))).FieldByName(name).Int()
				if has(op, name) && got != int64(n) || !has(op, name) && got != 0 {
					t.Fatalf("operation %d: %s %d has become %d", op, name, n, got)
				}
			}
		}
	}
}

// TestFieldsTell: P18.5, a field that an operation has is told by its bytes, and one that it has not is zero when it is decoded, whatever stood there.
func TestFieldsTell(t *testing.T) {
	for _, op := range ops {
		good := mustEncode(t, filled(op))
		names := reflect.TypeFor[api.Request]()
		for i := range names.NumField() {
			name := names.Field(i).Name
			if name == "Op" || name == "Token" {
				continue
			}
			r := filled(op)
			reflect.ValueOf(&r).Elem().Field(i).SetZero()
			if bytes.Equal(mustEncode(t, r), good) == has(op, name) {
				t.Errorf("operation %d: without its %s it has the same bytes: %v", op, name, has(op, name))
			}
			if zero := reflect.ValueOf(mustDecode(t, good)).Field(i).IsZero(); zero == has(op, name) {
				t.Errorf("operation %d: %s is decoded to zero: %v", op, name, zero)
			}
		}
	}
}

// TestEncodeOfDecode: P18.5, whatever is decoded is encoded to its bytes again.
func TestEncodeOfDecode(t *testing.T) {
	rnd := rand.New(rand.NewSource(191))
	met := map[int]int{}
	for range 40000 {
		b := append(bearer(someToken(rnd)), byte(rnd.Intn(14)))
		b = append(b, make([]byte, pick(rnd, []int{1, 1, 2, 3, 4, 9, 10, 13, 17}))...)
		for range rnd.Intn(4) {
			b[39+rnd.Intn(len(b)-39)] = byte(rnd.Intn(14))
		}
		r, err := request.Decode(b)
		if err != nil {
			continue
		}
		met[r.Op]++
		if c := mustEncode(t, r); !bytes.Equal(c, b) || !sameRequest(r, left(r)) {
			t.Fatalf("%x is decoded to %+v, and encoded to %x", b, r, c)
		}
	}
	for _, op := range ops {
		if met[op] < 20 {
			t.Errorf("%v: the test tells too little", met)
		}
	}
}

// TestReadOfAnswer: P18.5, what is answered is read to it, and answered by the same bytes again.
func TestReadOfAnswer(t *testing.T) {
	l := responses()
	rnd := rand.New(rand.NewSource(192))
	for range 20000 {
		l = append(l, someResponse(rnd))
	}
	l = append(l, api.Response{Why: 255, N: 1<<64 - 1, Bytes: make([]byte, 65535), Hashes: digests(255), Head: fullHead(), Token: tokens()[len(tokens())-1]})
	for _, a := range l {
		b := mustAnswer(t, a)
		c := mustRead(t, b)
		if !sameResponse(c, a) {
			t.Fatalf("%.999v is read as %.999v", a, c)
		}
		if d := mustAnswer(t, c); !bytes.Equal(d, b) {
			t.Fatalf("%.999x is answered by %.999x", b, d)
		}
	}
}

// TestAnswerOfRead: P18.5, whatever is read is answered by its bytes again.
func TestAnswerOfRead(t *testing.T) {
	rnd := rand.New(rand.NewSource(193))
	met := map[byte]int{}
	for range 40000 {
		b := ahead(rnd.Intn(2) == 0)
		told := byte(rnd.Intn(4))
		b = append(b, told)
		if told&1 == 1 {
			head := wantedHead(pick(rnd, heads()))
			head[rnd.Intn(85)] ^= byte(rnd.Intn(256))
			b = append(b, head...)
		}
		if told&2 == 2 {
			b = append(b, bearer(someToken(rnd))...)
		}
		for range rnd.Intn(2) {
			b[rnd.Intn(len(b))] ^= 1 << rnd.Intn(8)
		}
		a, err := request.Read(b)
		if err != nil {
			continue
		}
		met[told]++
		if c := mustAnswer(t, a); !bytes.Equal(c, b) {
			t.Fatalf("%x is read as %+v, and answered by %x", b, a, c)
		}
	}
	for told := range byte(4) {
		if met[told] < 200 {
			t.Errorf("%v: the test tells too little", met)
		}
	}
}

// TestBytesAreUnlike: P18.5, unlike requests have unlike bytes, but for fields that their operation does not have; likewise responses.
func TestBytesAreUnlike(t *testing.T) {
	asked := map[string]api.Request{}
	for _, r := range requests() {
		for _, name := range smallNames {
			for _, n := range small {
				r := set(r, name, n)
				b := string(mustEncode(t, r))
				if q, ok := asked[b]; ok && !sameRequest(left(q), left(r)) {
					t.Fatalf("%+v and %+v have the bytes %x", q, r, b)
				}
				asked[b] = r
			}
		}
	}
	answered := map[string]api.Response{}
	for _, a := range slices.Concat(responses(), []api.Response{{N: 1}, {Why: 1}, {Bytes: []byte{0}}, {Hashes: digests(1)}}) {
		b := string(mustAnswer(t, a))
		if c, ok := answered[b]; ok && !sameResponse(c, a) {
			t.Fatalf("%+v and %+v have the bytes %x", c, a, b)
		}
		answered[b] = a
	}
}
