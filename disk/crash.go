package disk

import "deponent/api"

// Cut says what a crash leaves of the pending writes: those of Keep whole, and the first Bytes bytes of the one whose index is Torn.
type Cut struct {
	Keep        []bool
	Torn, Bytes int
}

// Stop lets the disk do so many Writes and Flushes more, and then none till it crashes.
func (d *Disk) Stop(after int) {
	d.stops = true
	d.left = max(after, 0)
}

// Crash leaves of the pending writes what c says, and starts the disk again, if it was stopped.
func (d *Disk) Crash(c Cut) {
	for k, w := range d.pending {
		copy(d.safe[w.place][:], w.text[:c.bytesOf(k)])
	}
	// Only now: a sector may be written several times, and what is safe of it hangs on the last of them too.
	for _, w := range d.pending {
		d.seen[w.place] = d.safe[w.place]
	}
	d.pending = nil
	d.stops = false
	d.left = 0
}

// bytesOf answers how many bytes become safe of the k-th pending write.
func (c Cut) bytesOf(k int) int {
	switch {
	case k < len(c.Keep) && c.Keep[k]:
		return api.Sector
	case k == c.Torn:
		return min(max(c.Bytes, 0), api.Sector)
	}
	return 0
}

// works tells whether the disk does one more Write or Flush, and counts it.
func (d *Disk) works() bool {
	if !d.stops {
		return true
	}
	if d.left == 0 {
		return false
	}
	d.left--
	return true
}
