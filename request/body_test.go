package request_test

import (
	"bytes"
	"encoding/hex"
	"math"
	"math/rand"
	"reflect"
	"strings"
	"testing"

	"deponent/api"
	"deponent/request"
)

// TestBodyWrittenOut: P18.1, of every operation, each of its fields unlike the others.
func TestBodyWrittenOut(t *testing.T) {
	for op, want := range map[int]string{
		api.Add:     "01 03 0004 6c656166",
		api.Look:    "02 03",
		api.Entry:   "03 03 0c0d0e0f10111213",
		api.Prove:   "04 03 0c0d0e0f10111213 1415161718191a1b",
		api.Compare: "05 03 0c0d0e0f10111213 1415161718191a1b",
		api.Create:  "06 03 04 07",
		api.Change:  "07 03 06",
		api.Weigh:   "08 03 07",
		api.Rotate:  "09 03",
		api.Grant:   "0a 04 05 28292a2b2c2d2e2f",
		api.Revoke:  "0b 08090a0b",
		api.Limit:   "0c 04 1c1d1e1f 20212223 24252627",
	} {
		b, why := request.Body(filled(op))
		if got := hex.EncodeToString(b); why != api.OK || got != strings.ReplaceAll(want, " ", "") {
			t.Errorf("operation %d: %s, %v, not %s", op, got, why, want)
		}
	}
}

// TestBodyOfZero: P18.1, of every operation with nothing else: as many noughts behind it as it has bytes.
func TestBodyOfZero(t *testing.T) {
	for op, size := range map[int]int{api.Add: 3, api.Look: 1, api.Entry: 9, api.Prove: 17, api.Compare: 17, api.Create: 3, api.Change: 2, api.Weigh: 2, api.Rotate: 1, api.Grant: 10, api.Revoke: 4, api.Limit: 13} {
		b, why := request.Body(api.Request{Op: op})
		if want := append([]byte{byte(op)}, make([]byte, size)...); why != api.OK || !bytes.Equal(b, want) {
			t.Errorf("operation %d: %x, %v, not %x", op, b, why, want)
		}
	}
}

// TestBodyOfNoOperation: P18.1, ErrArg of an Op that is none, whatever else there is.
func TestBodyOfNoOperation(t *testing.T) {
	for _, op := range strangeOps {
		for _, r := range []api.Request{{Op: op}, filled(op), {Op: op, Leaf: make([]byte, 300)}, {Op: op, Tree: -1}, {Op: op, Token: api.Token{Caveats: make([]api.Caveat, 5)}}} {
			wantNoBytes(t, r, api.ErrArg)
		}
	}
	for op := -1000; op <= 1000; op++ {
		if fieldsOf(op) == nil {
			wantNoBytes(t, filled(op), api.ErrArg)
		}
	}
}

// TestBodySmall: P18.1, each number of int that a byte tells, of every operation.
func TestBodySmall(t *testing.T) {
	for _, op := range ops {
		for _, name := range smallNames {
			for n := range 256 {
				wantBody(t, set(filled(op), name, n))
			}
		}
	}
}

// TestBodyStrange: P18.1, each number of int that a byte does not tell: ErrArg where the operation has it, and not looked at where it has not.
func TestBodyStrange(t *testing.T) {
	for _, op := range ops {
		good, _ := request.Body(filled(op))
		for _, name := range smallNames {
			for _, n := range strange {
				r := set(filled(op), name, n)
				if has(op, name) {
					wantNoBytes(t, r, api.ErrArg)
				} else if b, why := request.Body(r); why != api.OK || !bytes.Equal(b, good) {
					t.Fatalf("Body(%+v): %x, %v, not %x", r, b, why, good)
				}
				wantBody(t, r)
			}
		}
	}
}

// TestBodyStrangeTogether: P18.1, with strange numbers in every field of int that the operation has not there is a body, and with one more there is none.
func TestBodyStrangeTogether(t *testing.T) {
	for _, op := range ops {
		good, _ := request.Body(filled(op))
		for _, n := range strange {
			r := filled(op)
			for _, name := range smallNames {
				if !has(op, name) {
					r = set(r, name, n)
				}
			}
			if b, why := request.Body(r); why != api.OK || !bytes.Equal(b, good) {
				t.Fatalf("Body(%+v): %x, %v, not %x", r, b, why, good)
			}
			wantRequest(t, r)
			all := r
			for _, name := range smallNames {
				wantBody(t, set(r, name, n))
				all = set(all, name, n)
			}
			wantBody(t, all)
		}
	}
}

// TestBodyNumbers: P18.1, numbers of four and of eight bytes, about which bytes change and at their ends, each alone and among full ones.
func TestBodyNumbers(t *testing.T) {
	for _, op := range ops {
		for _, f := range fieldsOf(op) {
			for _, n := range longs {
				if f.size == 1 || f.size == 0 || f.size == 4 && n > math.MaxUint32 {
					continue
				}
				for _, r := range []api.Request{{Op: op}, filled(op), full(op)} {
					reflect.ValueOf(&r).Elem().FieldByName(f.name).SetUint(n)
					wantBody(t, r)
				}
			}
		}
	}
}

// full has every number at its end.
func full(op int) api.Request {
	return api.Request{
		Op: op, Tree: 255, Tenant: 255, Role: 255, State: 255, Weight: 255,
		Id: math.MaxUint32, From: math.MaxUint64, To: math.MaxUint64, Rate: math.MaxUint32, Burst: math.MaxUint32, Store: math.MaxUint32, Expires: math.MaxUint64,
		Leaf: bytes.Repeat([]byte{255}, api.MaxLeaf),
	}
}

// TestBodyLeaf: P18.1, a Leaf of every length up to MaxLeaf; from one more on ErrLong of an Add, and of another operation it is not looked at.
func TestBodyLeaf(t *testing.T) {
	rnd := rand.New(rand.NewSource(181))
	lengths := []int{257, 258, 300, 511, 512, 513, 65535, 65536, 65537, 65536 + 256, 1 << 20}
	for n := range api.MaxLeaf + 1 {
		lengths = append(lengths, n)
	}
	for _, n := range lengths {
		leaf := make([]byte, n)
		rnd.Read(leaf)
		for _, op := range ops {
			r := filled(op)
			good, _ := request.Body(r)
			r.Leaf = leaf
			b, why := request.Body(r)
			switch {
			case op != api.Add:
				if why != api.OK || !bytes.Equal(b, good) {
					t.Fatalf("operation %d with a Leaf of %d: %x, %v", op, n, b, why)
				}
			case n > 256:
				if why != api.ErrLong || len(b) != 0 {
					t.Fatalf("a Leaf of %d: %x, %v", n, b, why)
				}
			default:
				want := append([]byte{1, 3, byte(n >> 8), byte(n)}, leaf...)
				if why != api.OK || !bytes.Equal(b, want) {
					t.Fatalf("a Leaf of %d: %x, %v, not %x", n, b, why, want)
				}
			}
		}
	}
}

// TestBodyFirstRefusal: P18.1, ErrArg counts ahead of ErrLong.
func TestBodyFirstRefusal(t *testing.T) {
	long := make([]byte, api.MaxLeaf+1)
	for _, n := range strange {
		wantNoBytes(t, api.Request{Op: api.Add, Tree: n, Leaf: long}, api.ErrArg)
		wantNoBytes(t, api.Request{Op: api.Add, Tree: 255, Tenant: n, Role: n, State: n, Weight: n, Leaf: long}, api.ErrLong)
	}
	for _, op := range strangeOps {
		wantNoBytes(t, api.Request{Op: op, Tree: 1, Leaf: long}, api.ErrArg)
	}
}

// TestBodyOfAnyToken: P18.1, a body does not hang on the token, though that has no bytes.
func TestBodyOfAnyToken(t *testing.T) {
	all := tokens()
	for _, l := range strangeTokens() {
		all = append(all, l...)
	}
	for _, op := range ops {
		good, _ := request.Body(filled(op))
		for _, x := range all {
			r := filled(op)
			r.Token = x
			if b, why := request.Body(r); why != api.OK || !bytes.Equal(b, good) {
				t.Fatalf("Body(%+v): %x, %v, not %x", r, b, why, good)
			}
		}
	}
}

// TestBodyDrawn: P18.1, of requests with drawn fields, some of them strange.
func TestBodyDrawn(t *testing.T) {
	rnd := rand.New(rand.NewSource(182))
	met := map[api.Errno]int{}
	for range 20000 {
		r := someRequest(rnd, pick(rnd, append(ops, pick(rnd, strangeOps))))
		for range rnd.Intn(3) {
			r = set(r, pick(rnd, smallNames), pick(rnd, strange))
		}
		if rnd.Intn(3) == 0 {
			r.Leaf = make([]byte, 250+rnd.Intn(20))
		}
		_, why := wantedBody(r)
		met[why]++
		wantBody(t, r)
	}
	for _, why := range []api.Errno{api.OK, api.ErrArg, api.ErrLong} {
		if met[why] < 200 {
			t.Errorf("%v: the test tells too little", met)
		}
	}
}
