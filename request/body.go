package request

import (
	"deponent/api"
	"deponent/codec"
	"deponent/token"
)

// Body answers the bytes of r without its token.
func Body(r api.Request) ([]byte, api.Errno) {
	f, known := fieldsOf(r.Op)
	if !known || !areBytes(r, f) {
		return nil, api.ErrArg
	}
	if f.leaf && len(r.Leaf) > api.MaxLeaf {
		return nil, api.ErrLong
	}
	w := codec.NewWriter()
	w.Number(uint64(r.Op), byteSize)
	writeFields(w, r, f)
	return w.Done(), api.OK
}

// Encode answers the bytes of r. The body is made first, as what it refuses counts ahead of what the token does.
func Encode(r api.Request) ([]byte, api.Errno) {
	body, why := Body(r)
	if why != api.OK {
		return nil, why
	}
	bearer, why := token.Encode(r.Token)
	if why != api.OK {
		return nil, why
	}
	w := codec.NewWriter()
	w.Bytes(bearer)
	return append(w.Done(), body...), api.OK
}

// Decode answers the request whose bytes b is. The reader keeps the first refusal, and tells it at the end.
func Decode(b []byte) (api.Request, error) {
	left := codec.NewReader(b)
	bearer := readToken(left, mostToken)
	r := readBody(left)
	r.Token = bearer
	if err := left.End(); err != nil {
		return api.Request{}, err
	}
	return r, nil
}

// areBytes tells whether one byte can tell each number of int that the operation has. What it has not is not asked.
func areBytes(r api.Request, f fields) bool {
	return (!f.tree || isByte(r.Tree)) &&
		(!f.tenant || isByte(r.Tenant)) &&
		(!f.role || isByte(r.Role)) &&
		(!f.state || isByte(r.State)) &&
		(!f.weight || isByte(r.Weight))
}

// writeFields writes what the operation has, in the order of the fields.
func writeFields(w *codec.Writer, r api.Request, f fields) {
	number := func(has bool, n uint64, size int) {
		if has {
			w.Number(n, size)
		}
	}
	number(f.tree, uint64(r.Tree), byteSize)
	number(f.tenant, uint64(r.Tenant), byteSize)
	number(f.role, uint64(r.Role), byteSize)
	number(f.state, uint64(r.State), byteSize)
	number(f.weight, uint64(r.Weight), byteSize)
	number(f.id, uint64(r.Id), wordSize)
	number(f.from, r.From, longSize)
	number(f.to, r.To, longSize)
	number(f.rate, uint64(r.Rate), wordSize)
	number(f.burst, uint64(r.Burst), wordSize)
	number(f.store, uint64(r.Store), wordSize)
	number(f.expires, r.Expires, longSize)
	if f.leaf {
		w.Bytes(r.Leaf)
	}
}

// readBody reads an operation and what it has. Where the bytes have ended, the operation is 0, and that refusal comes too late to count.
func readBody(left *codec.Reader) api.Request {
	r := api.Request{Op: int(left.Number(byteSize))}
	f, known := fieldsOf(r.Op)
	if !known {
		left.Fail(api.ErrForm)
	}
	readFields(left, &r, f)
	return r
}

// readFields reads what writeFields writes.
func readFields(left *codec.Reader, r *api.Request, f fields) {
	number := func(has bool, size int) uint64 {
		if !has {
			return 0
		}
		return left.Number(size)
	}
	r.Tree = int(number(f.tree, byteSize))
	r.Tenant = int(number(f.tenant, byteSize))
	r.Role = int(number(f.role, byteSize))
	r.State = int(number(f.state, byteSize))
	r.Weight = int(number(f.weight, byteSize))
	r.Id = uint32(number(f.id, wordSize))
	r.From = number(f.from, longSize)
	r.To = number(f.to, longSize)
	r.Rate = uint32(number(f.rate, wordSize))
	r.Burst = uint32(number(f.burst, wordSize))
	r.Store = uint32(number(f.store, wordSize))
	r.Expires = number(f.expires, longSize)
	if f.leaf {
		r.Leaf = left.Bytes(api.MaxLeaf)
	}
}
