package request

import (
	"deponent/api"
	"deponent/codec"
	"deponent/token"
)

// What one byte of a response tells of it: which of the two stand behind that byte.
const (
	hasHead  = 1
	hasToken = 2
)

// Answer answers the bytes of a.
func Answer(a api.Response) ([]byte, api.Errno) {
	bearer, no := token.Encode(a.Token)
	if why := refusalOf(a, no); why != api.OK {
		return nil, why
	}
	w := codec.NewWriter()
	w.Number(uint64(a.Why), byteSize)
	w.Number(a.N, longSize)
	w.Bytes(a.Bytes)
	w.Number(uint64(len(a.Hashes)), byteSize)
	for _, d := range a.Hashes {
		w.Digest(d)
	}
	has := told(a)
	w.Number(has, byteSize)
	if has&hasHead != 0 {
		writeHead(w, a.Head)
	}
	if has&hasToken != 0 {
		w.Bytes(bearer)
	}
	return w.Done(), api.OK
}

// Read answers the response whose bytes b is. A head or a token that is told is not zero, so that no response has two forms.
func Read(b []byte) (api.Response, error) {
	r := codec.NewReader(b)
	var a api.Response
	a.Why = api.Errno(r.Number(byteSize))
	a.N = r.Number(longSize)
	a.Bytes = r.Bytes(mostBytes)
	a.Hashes = readHashes(r)
	has := r.Number(byteSize)
	if has > hasHead+hasToken {
		r.Fail(api.ErrForm)
	}
	if has&hasHead != 0 {
		a.Head = readHead(r)
	}
	if has&hasToken != 0 {
		a.Token = readToken(r, mostBytes)
		if isNoToken(a.Token) {
			r.Fail(api.ErrForm)
		}
	}
	if err := r.End(); err != nil {
		return api.Response{}, err
	}
	return a, nil
}

// refusalOf answers why a has no bytes, or OK. What the token's own bytes are refused with is handed in, as its place in the order hangs on its number.
func refusalOf(a api.Response, ofToken api.Errno) api.Errno {
	head := a.Head.Head
	switch {
	case len(a.Hashes) > mostHashes || ofToken == api.ErrMany:
		return api.ErrMany
	case len(a.Bytes) > mostBytes:
		return api.ErrLong
	case !isByte(int(a.Why)) || !isByte(head.Tree) || head.Epoch < 0 || head.Epoch > mostEpoch:
		return api.ErrArg
	}
	return ofToken
}

// told answers the byte that says what stands behind it.
func told(a api.Response) uint64 {
	has := uint64(0)
	if a.Head != (api.Signed{}) {
		has |= hasHead
	}
	if !isNoToken(a.Token) {
		has |= hasToken
	}
	return has
}

// isNoToken tells whether t is zero; an empty list of caveats is none.
func isNoToken(t api.Token) bool {
	return t.Id == 0 && len(t.Caveats) == 0 && t.Tag == api.Digest{}
}

// writeHead writes what is signed, and the tag.
func writeHead(w *codec.Writer, s api.Signed) {
	w.Number(uint64(s.Head.Tree), byteSize)
	w.Number(uint64(s.Head.Epoch), wordSize)
	w.Number(s.Head.Size, longSize)
	w.Number(s.Head.Clock, longSize)
	w.Digest(s.Head.Root)
	w.Digest(s.Tag)
}

// readHead refuses an epoch ahead of what follows it, as it stands ahead of it. Where the bytes have ended, the head is zero, and that refusal comes too late to count.
func readHead(r *codec.Reader) api.Signed {
	var s api.Signed
	s.Head.Tree = int(r.Number(byteSize))
	epoch := r.Number(wordSize)
	if epoch > mostEpoch {
		r.Fail(api.ErrForm)
	}
	s.Head.Epoch = int(epoch)
	s.Head.Size = r.Number(longSize)
	s.Head.Clock = r.Number(longSize)
	s.Head.Root = r.Digest()
	s.Tag = r.Digest()
	if s == (api.Signed{}) {
		r.Fail(api.ErrForm)
	}
	return s
}

// readHashes reads a count and as many digests as it says.
func readHashes(r *codec.Reader) []api.Digest {
	var l []api.Digest
	for range r.Number(byteSize) {
		l = append(l, r.Digest())
	}
	return l
}
