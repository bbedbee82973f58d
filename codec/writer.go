package codec

import "deponent/api"

// Writer writes numbers, texts and digests, one behind the other.
type Writer struct {
	text []byte
}

// NewWriter answers a Writer that has written nothing.
func NewWriter() *Writer { return &Writer{} }

// Number writes the lowest bytes of n, the highest of them first.
func (w *Writer) Number(n uint64, bytes int) {
	for left := numberSize(bytes); left > 0; left-- {
		w.text = append(w.text, byte(n>>(8*(left-1))))
	}
}

// Bytes writes a count and as many of b's bytes as it says: not all of them, if b is longer than a count can say.
func (w *Writer) Bytes(b []byte) {
	count := len(b) % countEnd
	w.Number(uint64(count), countSize)
	w.text = append(w.text, b[:count]...)
}

// Digest writes d's bytes, without a count.
func (w *Writer) Digest(d api.Digest) {
	w.text = append(w.text, d[:]...)
}

// Done answers all that was written so far; more may be written behind it.
func (w *Writer) Done() []byte { return copyOf(w.text) }
