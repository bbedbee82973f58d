package codec

import "deponent/api"

// Reader reads what a Writer writes. It can be read on behind a refusal, so that a caller needs to ask for it only once, by End.
type Reader struct {
	text  []byte
	place int
	first Refusal // its Why is OK while there is none
}

// NewReader answers a Reader that stands ahead of the first byte of b.
func NewReader(b []byte) *Reader { return &Reader{text: copyOf(b)} }

// Number reads a number of so many bytes.
func (r *Reader) Number(bytes int) uint64 {
	n := uint64(0)
	for _, b := range r.take(numberSize(bytes)) {
		n = n<<8 | uint64(b)
	}
	return n
}

// Bytes reads a text of at most most bytes.
func (r *Reader) Bytes(most int) []byte {
	start := r.place
	count := int(r.Number(countSize))
	if count > most {
		r.refuse(start, api.ErrLong)
	}
	return copyOf(r.take(count))
}

// Digest reads a digest.
func (r *Reader) Digest() api.Digest {
	var d api.Digest
	copy(d[:], r.take(len(d)))
	return d
}

// Fail refuses with why at the place where the Reader stands.
func (r *Reader) Fail(why api.Errno) { r.refuse(r.place, why) }

// End answers the first refusal, or one of the bytes that are left. It leaves the Reader as it is: bytes that are left can still be read.
func (r *Reader) End() error {
	if r.refused() {
		first := r.first
		return &first
	}
	if r.place < len(r.text) {
		return &Refusal{At: r.place, Why: api.ErrTail}
	}
	return nil
}

// take answers the next count bytes, all of them or none; the memory is the Reader's own.
func (r *Reader) take(count int) []byte {
	if count > len(r.text)-r.place {
		r.refuse(len(r.text), api.ErrEnd)
	}
	if r.refused() {
		return nil
	}
	start := r.place
	r.place += count
	return r.text[start:r.place]
}

// refuse keeps a refusal, if it is the first one; OK is none.
func (r *Reader) refuse(at int, why api.Errno) {
	if !r.refused() {
		r.first = Refusal{At: at, Why: why}
	}
}

func (r *Reader) refused() bool { return r.first.Why != api.OK }
