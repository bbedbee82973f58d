package token

import (
	"slices"

	"deponent/api"
	"deponent/codec"
)

// Encode answers the bytes of t, whether it is genuine or not.
func Encode(t api.Token) ([]byte, api.Errno) {
	if len(t.Caveats) > api.MaxCaveats {
		return nil, api.ErrMany
	}
	if slices.ContainsFunc(t.Caveats, isStrange) {
		return nil, api.ErrArg
	}
	w := codec.NewWriter()
	w.Number(uint64(t.Id), idSize)
	w.Number(uint64(len(t.Caveats)), countSize)
	for _, c := range t.Caveats {
		writeCaveat(w, c)
	}
	w.Digest(t.Tag)
	return w.Done(), api.OK
}

// Decode answers the token whose bytes b is. The reader keeps the first refusal, and tells it at the end.
func Decode(b []byte) (api.Token, error) {
	r := codec.NewReader(b)
	t := api.Token{Id: uint32(r.Number(idSize))}
	t.Caveats = readCaveats(r)
	t.Tag = r.Digest()
	if err := r.End(); err != nil {
		return api.Token{}, err
	}
	return t, nil
}

// readCaveats reads a count and as many caveats as it says.
func readCaveats(r *codec.Reader) []api.Caveat {
	count := r.Number(countSize)
	if count > api.MaxCaveats {
		r.Fail(api.ErrMany)
		return nil
	}
	var l []api.Caveat
	for range count {
		l = append(l, readCaveat(r))
	}
	return l
}

// readCaveat refuses a strange Kind ahead of N, as it stands ahead of it. Where the bytes have ended, the Kind is 0, and that refusal comes too late to count.
func readCaveat(r *codec.Reader) api.Caveat {
	c := api.Caveat{Kind: int(r.Number(kindSize))}
	if isStrange(c) {
		r.Fail(api.ErrForm)
	}
	c.N = uint32(r.Number(numSize))
	return c
}

// writeCaveat writes what is tagged of a caveat, which is also what is encoded of it.
func writeCaveat(w *codec.Writer, c api.Caveat) {
	w.Number(uint64(c.Kind), kindSize)
	w.Number(uint64(c.N), numSize)
}
