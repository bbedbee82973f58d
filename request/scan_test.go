package request_test

import (
	"reflect"

	"deponent/api"
)

// scan goes over bytes from the left, by places alone, and stops by a panic at the first thing that the chapter refuses.
type scan struct {
	b     []byte
	place int
}

// stop is where a scan was refused, and why.
type stop struct {
	at  int
	why api.Errno
}

// take goes over so many bytes.
func (s *scan) take(n int) []byte {
	if n > len(s.b)-s.place {
		panic(stop{len(s.b), api.ErrEnd})
	}
	s.place += n
	return s.b[s.place-n : s.place]
}

func (s *scan) number(size int) uint64 {
	n := uint64(0)
	for _, b := range s.take(size) {
		n = n*256 + uint64(b)
	}
	return n
}

// text goes over a count and as many bytes; a count above most is refused where it begins.
func (s *scan) text(most int) []byte {
	at := s.place
	n := int(s.number(2))
	if n > most {
		panic(stop{at, api.ErrLong})
	}
	return append([]byte{}, s.take(n)...)
}

func (s *scan) digest() api.Digest { return api.Digest(s.take(32)) }

// want refuses with ErrForm behind what was gone over.
func (s *scan) want(ok bool) {
	if !ok {
		panic(stop{s.place, api.ErrForm})
	}
}

func (s *scan) end() {
	if s.place < len(s.b) {
		panic(stop{s.place, api.ErrTail})
	}
}

// scanned runs f over b: where it was refused and why, or OK.
func scanned(b []byte, f func(*scan)) (no stop) {
	defer func() {
		if x := recover(); x != nil {
			no = x.(stop)
		}
	}()
	s := &scan{b: b}
	f(s)
	s.end()
	return stop{}
}

// tokenOf is the token whose bytes these are, by chapter 12; false, if there is none.
func tokenOf(b []byte) (x api.Token, ok bool) {
	no := scanned(b, func(s *scan) {
		x.Id = uint32(s.number(4))
		n := s.number(1)
		s.want(n <= 4)
		for range n {
			c := api.Caveat{Kind: int(s.number(1)), N: uint32(s.number(4))}
			s.want(c.Kind >= 1 && c.Kind <= 3)
			x.Caveats = append(x.Caveats, c)
		}
		x.Tag = s.digest()
	})
	return x, no.why == api.OK
}

// token goes over a text that is a token's bytes.
func (s *scan) token(most int) api.Token {
	x, ok := tokenOf(s.text(most))
	s.want(ok)
	return x
}

// requestOf is P18.2 by its words.
func requestOf(b []byte) (r api.Request, no stop) {
	no = scanned(b, func(s *scan) {
		r.Token = s.token(77)
		r.Op = int(s.number(1))
		l := fieldsOf(r.Op)
		s.want(l != nil)
		for _, f := range l {
			switch v := reflect.ValueOf(&r).Elem().FieldByName(f.name); v.Kind() {
			case reflect.Int:
				v.SetInt(int64(s.number(f.size)))
			case reflect.Slice:
				v.SetBytes(s.text(256))
			default:
				v.SetUint(s.number(f.size))
			}
		}
	})
	if no.why != api.OK {
		return api.Request{}, no
	}
	return r, no
}

// responseOf is P18.3's Read by its words.
func responseOf(b []byte) (a api.Response, no stop) {
	no = scanned(b, func(s *scan) {
		a.Why = api.Errno(s.number(1))
		a.N = s.number(8)
		a.Bytes = s.text(65535)
		for range s.number(1) {
			a.Hashes = append(a.Hashes, s.digest())
		}
		told := s.number(1)
		s.want(told <= 3)
		if told == 1 || told == 3 {
			h := &a.Head.Head
			h.Tree = int(s.number(1))
			epoch := s.number(4)
			s.want(epoch < 1<<31)
			h.Epoch = int(epoch)
			h.Size, h.Clock, h.Root = s.number(8), s.number(8), s.digest()
			a.Head.Tag = s.digest()
			s.want(!reflect.ValueOf(a.Head).IsZero())
		}
		if told == 2 || told == 3 {
			a.Token = s.token(65535)
			s.want(!reflect.ValueOf(a.Token).IsZero())
		}
	})
	if no.why != api.OK {
		return api.Response{}, no
	}
	return a, no
}
