package pages

import (
	"bytes"

	"deponent/api"
	"deponent/disk"
	"deponent/wal"
)

const (
	perPage  = api.Page / api.Sector // sectors
	logCount = 4                     // sectors, the fewest that a log may have: it has room for a set
)

// Places on the disk: the mark, the log, the pages, and room for the sheets of one Put.
const (
	markPlace  = 0
	logStart   = markPlace + 1
	homeStart  = logStart + logCount
	spareStart = homeStart + api.MaxPages*perPage
)

// mark fills the sector that tells that there are pages. It is written over noughts alone, and none of its bytes is one: whatever a crash leaves of it, or of the noughts that are written over it, is not the mark.
const (
	markPart = "pages that are put together ... " // a quarter of a sector
	mark     = markPart + markPart + markPart + markPart
)

// fits tells whether d has room for pages.
func fits(d *disk.Disk) bool { return d != nil && d.Sectors() >= api.Need }

// home answers where page n begins.
func home(n int) int { return homeStart + n*perPage }

// spare answers where the k-th sheet of a Put begins.
func spare(k int) int { return spareStart + k*perPage }

// settle makes all safe that is pending: while something is, a crash may leave other pages than those that are read.
func settle(d *disk.Disk) api.Errno {
	if d.Pending() == 0 {
		return api.OK
	}
	return d.Flush()
}

// keep writes b to a sector, and makes it safe.
func keep(d *disk.Disk, place int, b []byte) api.Errno {
	if why := d.Write(place, b); why != api.OK {
		return why
	}
	return d.Flush()
}

// clearHomes makes all pages noughts, safe.
func clearHomes(d *disk.Disk) api.Errno {
	noughts := make([]byte, api.Sector)
	for place := homeStart; place < spareStart; place++ {
		if b, _ := d.Read(place); bytes.Equal(b, noughts) {
			continue
		}
		if why := d.Write(place, noughts); why != api.OK {
			return why
		}
	}
	return settle(d)
}

// look answers the log, and the pages whose sheets it tells of; ErrDisk, if there are no pages.
func look(d *disk.Disk) (*wal.Log, set, api.Errno) {
	if b, _ := d.Read(markPlace); string(b) != mark {
		return nil, set{}, api.ErrDisk
	}
	log, why := wal.Open(d, logStart, logCount)
	if why != api.OK {
		return nil, set{}, why
	}
	away, ok := setIn(log.Records())
	if !ok {
		return nil, set{}, api.ErrDisk
	}
	return log, away, api.OK
}

// putSpares makes the sheets safe beside the pages.
func putSpares(d *disk.Disk, sheets []Sheet) api.Errno {
	for k, s := range sheets {
		if why := writePage(d, spare(k), s.B); why != api.OK {
			return why
		}
	}
	return d.Flush()
}

// bringHome makes the pages what their sheets are that the log tells of, and clears it. It may be done over and over: the sheets stay as they are till the log tells of none.
func bringHome(d *disk.Disk, log *wal.Log, away set) api.Errno {
	if away == (set{}) {
		return api.OK
	}
	for k, n := range away.pages() {
		if why := writePage(d, home(n), readPage(d, spare(k))); why != api.OK {
			return why
		}
	}
	if why := d.Flush(); why != api.OK {
		return why
	}
	return log.Clear()
}

// readPage answers the page that begins there.
func readPage(d *disk.Disk, start int) []byte {
	b := make([]byte, 0, api.Page)
	for place := start; place < start+perPage; place++ {
		sector, _ := d.Read(place)
		b = append(b, sector...)
	}
	return b
}

// writePage writes the page that begins there. A crash may lose it till the next Flush.
func writePage(d *disk.Disk, start int, b []byte) api.Errno {
	for k := range perPage {
		if why := d.Write(start+k, b[k*api.Sector:(k+1)*api.Sector]); why != api.OK {
			return why
		}
	}
	return api.OK
}
