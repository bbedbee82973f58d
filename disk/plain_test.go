package disk_test

import (
	"bytes"
	"fmt"
	"math"
	"math/rand"
	"slices"
	"testing"

	"deponent/api"
	"deponent/disk"
)

// plain is what chapter 3 says of a disk, told in another way: all that is safe, one byte behind the other, and what was written since, laid over it anew for each Read.
type plain struct {
	safe  []byte
	place []int
	text  [][]byte
	left  int // below 0: it is not stopped
}

func (p *plain) copied() *plain {
	return &plain{safe: slices.Clone(p.safe), place: slices.Clone(p.place), text: slices.Clone(p.text), left: p.left}
}

func (p *plain) read(n int) ([]byte, api.Errno) {
	if n < 0 || n >= len(p.safe)/api.Sector {
		return nil, api.ErrArg
	}
	b := slices.Clone(p.safe[n*api.Sector : (n+1)*api.Sector])
	for k := range p.place {
		if p.place[k] == n {
			b = p.text[k]
		}
	}
	return b, api.OK
}

func (p *plain) stopped() bool {
	if p.left > 0 {
		p.left--
		return false
	}
	return p.left == 0
}

func (p *plain) write(n int, b []byte) api.Errno {
	if n < 0 || n >= len(p.safe)/api.Sector || len(b) != api.Sector {
		return api.ErrArg
	}
	if p.stopped() {
		return api.ErrDisk
	}
	p.place, p.text = append(p.place, n), append(p.text, slices.Clone(b))
	return api.OK
}

func (p *plain) lay(bytesOf func(k int) int) {
	for k, n := range p.place {
		copy(p.safe[n*api.Sector:], p.text[k][:bytesOf(k)])
	}
	p.place, p.text = nil, nil
}

func (p *plain) flush() api.Errno {
	if p.stopped() {
		return api.ErrDisk
	}
	p.lay(func(int) int { return api.Sector })
	return api.OK
}

func (p *plain) crash(c disk.Cut) {
	p.lay(func(k int) int {
		if k < len(c.Keep) && c.Keep[k] {
			return api.Sector
		}
		if k != c.Torn || c.Bytes < 0 {
			return 0
		}
		if c.Bytes > api.Sector {
			return api.Sector
		}
		return c.Bytes
	})
	p.left = -1
}

func someText(r *rand.Rand) []byte {
	size := api.Sector
	if r.Intn(8) == 0 {
		size = []int{0, 1, api.Sector - 1, api.Sector + 1, 2 * api.Sector}[r.Intn(5)]
	}
	b := make([]byte, size)
	r.Read(b)
	return b
}

func someCut(r *rand.Rand, pending int) disk.Cut {
	c := disk.Cut{Keep: make([]bool, r.Intn(pending+4)), Torn: r.Intn(pending+3) - 1, Bytes: r.Intn(api.Sector+20) - 10}
	for i := range c.Keep {
		c.Keep[i] = r.Intn(2) == 0
	}
	if r.Intn(8) == 0 {
		c.Bytes = []int{math.MinInt, -1, 0, api.Sector, math.MaxInt}[r.Intn(5)]
	}
	return c
}

// same reads all sectors and one on either side.
func same(d *disk.Disk, p *plain) error {
	sectors := len(p.safe) / api.Sector
	if d.Sectors() != sectors || d.Pending() != len(p.place) {
		return fmt.Errorf("%d sectors, %d pending, not %d, %d", d.Sectors(), d.Pending(), sectors, len(p.place))
	}
	for n := -1; n <= sectors; n++ {
		got, why := d.Read(n)
		want, whyNot := p.read(n)
		if !bytes.Equal(got, want) || why != whyNot {
			return fmt.Errorf("sector %d: %x, %v, not %x, %v", n, got, why, want, whyNot)
		}
	}
	return nil
}

// step does one of what can be done, to both.
func step(r *rand.Rand, d *disk.Disk, p *plain) (string, error) {
	switch k := r.Intn(20); {
	case k < 11:
		n, b := r.Intn(d.Sectors()+2)-1, someText(r)
		if got, want := d.Write(n, b), p.write(n, b); got != want {
			return "Write", fmt.Errorf("%v, not %v", got, want)
		}
		return "Write", nil
	case k < 15:
		if got, want := d.Flush(), p.flush(); got != want {
			return "Flush", fmt.Errorf("%v, not %v", got, want)
		}
		return "Flush", nil
	case k < 17:
		after := r.Intn(12) - 2
		d.Stop(after)
		p.left = max(after, 0)
		return "Stop", nil
	}
	c := someCut(r, d.Pending())
	d.Crash(c)
	p.crash(c)
	return "Crash", nil
}

// TestDiskIsPlain: P3.1 to P3.4, any calls in any order, of several disks that were copied from one another.
func TestDiskIsPlain(t *testing.T) {
	random := rand.New(rand.NewSource(31))
	for run := range 300 {
		sectors := 1 + random.Intn(5)
		disks := []*disk.Disk{made(t, sectors)}
		plains := []*plain{{safe: make([]byte, sectors*api.Sector), left: -1}}
		for i := range 120 {
			at := random.Intn(len(disks))
			if random.Intn(25) == 0 {
				disks, plains = append(disks, disks[at].Copy()), append(plains, plains[at].copied())
			}
			what, err := step(random, disks[at], plains[at])
			for k := 0; err == nil && k < len(disks); k++ {
				err = same(disks[k], plains[k])
			}
			if err != nil {
				t.Fatalf("run %d, step %d, %s of disk %d of %d: %v", run, i, what, at, len(disks), err)
			}
		}
	}
}
