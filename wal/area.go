package wal

import (
	"bytes"

	"deponent/api"
	"deponent/codec"
	"deponent/disk"
)

const (
	least   = 4      // sectors of an area
	magic   = 0xd10c // not noughts
	tagSize = 8
	body    = api.Sector - tagSize // bytes of the text that one sector has
)

// Places of an area, counted from its first sector.
const (
	frontHead = iota
	backHead
	textStart
)

// area is where a log lies: two heads, and the text that they tell of.
type area struct {
	disk        *disk.Disk
	from, count int
}

// areaOf answers the area of those sectors, if the disk has them.
func areaOf(d *disk.Disk, from, count int) (area, api.Errno) {
	if d == nil || from < 0 || count < least || from > d.Sectors()-count {
		return area{}, api.ErrArg
	}
	return area{disk: d, from: from, count: count}, api.OK
}

// room answers how many bytes of text the area can hold.
func (a area) room() int { return (a.count - textStart) * body }

// tag answers what each sector that a log has written begins with: neither noughts nor the sectors of another area or place do.
func (a area) tag(place int) []byte {
	w := codec.NewWriter()
	w.Number(magic, 2)
	w.Number(uint64(a.from), 2)
	w.Number(uint64(a.count), 2)
	w.Number(uint64(place), 2)
	return w.Done()
}

func (a area) read(place int) []byte {
	b, _ := a.disk.Read(a.from + place)
	return b
}

func (a area) write(place int, b []byte) api.Errno {
	return a.disk.Write(a.from+place, b)
}

// keep writes b and makes it safe, with all that was written ahead of it.
func (a area) keep(place int, b []byte) api.Errno {
	if why := a.write(place, b); why != api.OK {
		return why
	}
	return a.disk.Flush()
}

// format makes an empty log. The front head goes first and comes last: where it is neither a head nor broken there is no log, so that a crash on the way leaves none, or what was there.
func (a area) format() api.Errno {
	noughts := make([]byte, api.Sector)
	if why := a.keep(frontHead, noughts); why != api.OK {
		return why
	}
	for place := textStart; place < a.count; place++ {
		if bytes.Equal(a.read(place), noughts) {
			continue
		}
		if why := a.write(place, noughts); why != api.OK {
			return why
		}
	}
	if why := a.keep(backHead, a.blank(backHead)); why != api.OK {
		return why
	}
	return a.keep(frontHead, a.headSector(frontHead, head{}))
}

// spare answers the place for the next head, beside h: what is there is blank, and safe. It refuses, if h is not the one that holds: something else has written there.
func (a area) spare(h head) (int, api.Errno) {
	// While writes are pending, a crash may leave another head than the one that is read.
	if a.disk.Pending() > 0 {
		if why := a.disk.Flush(); why != api.OK {
			return 0, why
		}
	}
	now, place, ok := a.current()
	if !ok || now != h {
		return 0, api.ErrDisk
	}
	place = other(place)
	blank := a.blank(place)
	if bytes.Equal(a.read(place), blank) {
		return place, api.OK
	}
	return place, a.keep(place, blank)
}

// turn makes h the head that holds, at a place that is spare. The other one is blank before the call is acknowledged: it can't hold again, whatever becomes of h.
func (a area) turn(place int, h head) api.Errno {
	if why := a.keep(place, a.headSector(place, h)); why != api.OK {
		return why
	}
	return a.keep(other(place), a.blank(other(place)))
}

// putText makes the text safe, of which the first used bytes are. A sector that holds some of those is written again with the same ones, so that they outlast its being torn.
func (a area) putText(text []byte, used int) api.Errno {
	if len(text) <= used {
		return api.OK
	}
	for start := used / body * body; start < len(text); start += body {
		place := textStart + start/body
		b := make([]byte, api.Sector)
		copy(b, a.tag(place))
		copy(b[tagSize:], text[start:])
		if why := a.write(place, b); why != api.OK {
			return why
		}
	}
	return a.disk.Flush()
}

// textOf answers the text that h tells of, if it stands there and nothing else has written to its sectors, nor to those that are left.
func (a area) textOf(h head) ([]byte, bool) {
	if h.used > a.room() {
		return nil, false
	}
	var text []byte
	for place := textStart; place < a.count; place++ {
		b := a.read(place)
		if !a.owns(place, b) {
			return nil, false
		}
		if len(text) < h.used {
			text = append(text, b[tagSize:]...)
		}
	}
	text = text[:h.used]
	return text, sealing(text, h.seal)
}

// owns tells whether a log may have left b at place: noughts, its tag with anything behind it, or some of its tag, torn over noughts.
func (a area) owns(place int, b []byte) bool {
	tag := a.tag(place)
	return bytes.HasPrefix(b, tag) || bytes.HasPrefix(tag, bytes.TrimRight(b, "\x00"))
}
