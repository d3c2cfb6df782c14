package page

import (
	"pledge/api"
	"pledge/disk"
	"pledge/wire"
)

// How a Commit lies on the disk: the root names the sectors of the tables, a table those of its pages.
// A page that changes lies anew, and so does its table, in sectors in which nothing committed lies:
// all that was committed stays whole till the root that tells of the new is there.
const (
	rootSectors = 2
	none        = 0 // no page or table lies in a root's sector
	numberSize  = 2
	perTable    = api.SectorSize / numberSize
	tableCount  = api.MaxPages / perTable // 32: a root's List holds 40
)

// layout is the sectors in which the pages of a Commit and their tables lie; none: it isn't there.
type layout struct {
	pages  [api.MaxPages]int
	tables [tableCount]int
}

// readLayout is the layout whose tables a root lists.
func readLayout(d *disk.Disk, list []int) (layout, error) {
	var l layout
	if len(list) != tableCount {
		return layout{}, api.ErrShape
	}
	for t, sector := range list {
		if sector == none {
			continue
		}
		b, err := d.Read(sector)
		if err != nil {
			return layout{}, err
		}
		l.tables[t] = sector
		for i := range perTable {
			l.pages[t*perTable+i] = number(b[i*numberSize:])
		}
	}
	return l, nil
}

// next is the layout behind a Commit of the changed pages of the rising list, those dropped being nil; false: it does not fit.
func (l *layout) next(sectors int, list []int, changed map[int][]byte) (layout, bool) {
	next, free := *l, l.free(sectors)
	for _, p := range list {
		next.pages[p] = none
		if changed[p] != nil {
			next.pages[p] = free.take()
		}
	}
	for _, t := range tablesOf(list) {
		next.tables[t] = none
		if count(next.pagesOf(t)) > 0 {
			next.tables[t] = free.take()
		}
	}
	if free.short || 2*next.used() > sectors {
		return layout{}, false
	}
	return next, true
}

// used is how many sectors a Commit takes, those of the roots too. While that is not above half of
// the disk, the next one always finds room to lie anew as a whole.
func (l *layout) used() int {
	return rootSectors + count(l.pages[:]) + count(l.tables[:])
}

// pagesOf is where the pages of a table lie.
func (l *layout) pagesOf(t int) []int { return l.pages[t*perTable : (t+1)*perTable] }

// count is how many of the places are there.
func count(places []int) int {
	n := 0
	for _, sector := range places {
		if sector != none {
			n++
		}
	}
	return n
}

// spare is sectors that are free, and whether one was asked for in vain.
type spare struct {
	list  []int
	short bool
}

// take is the first of the sectors, and from then on not free.
func (f *spare) take() int {
	if len(f.list) == 0 {
		f.short = true
		return none
	}
	first := f.list[0]
	f.list = f.list[1:]
	return first
}

// free is the sectors of a disk of so many in which nothing lies, rising.
func (l *layout) free(sectors int) spare {
	taken := make([]bool, sectors)
	for _, sector := range l.pages {
		taken[sector] = true
	}
	for _, sector := range l.tables {
		taken[sector] = true
	}
	var f spare
	for i := rootSectors; i < sectors; i++ {
		if !taken[i] {
			f.list = append(f.list, i)
		}
	}
	return f
}

// tablesOf is the tables of the pages of a rising list, rising too, each once.
func tablesOf(list []int) []int {
	var tables []int
	for _, p := range list {
		t := p / perTable
		if n := len(tables); n == 0 || tables[n-1] != t {
			tables = append(tables, t)
		}
	}
	return tables
}

// tableBytes is a table as a sector's bytes: the sectors of its pages, of each the lower byte first.
func (l *layout) tableBytes(t int) []byte {
	b := make([]byte, 0, api.SectorSize)
	for _, sector := range l.pagesOf(t) {
		b = append(b, byte(sector), byte(sector>>8))
	}
	return b
}

// number is the number of a sector that is laid at b's beginning.
func number(b []byte) int { return int(b[0]) | int(b[1])<<8 }

// pageBytes is a page as a sector's bytes: its number, how many bytes it has, those, and 0s.
func pageBytes(p int, b []byte) []byte {
	sector := make([]byte, api.SectorSize)
	head := copy(sector, wire.Put(nil, int64(p), int64(len(b))))
	copy(sector[head:], b)
	return sector
}

// readPage is what page p has, of its sector's bytes.
func readPage(p int, sector []byte) ([]byte, error) {
	r := wire.NewReader(sector)
	r.Num(int64(p), int64(p))
	size := int(r.Num(1, maxBytes))
	if r.Err() != nil {
		return nil, api.ErrShape
	}
	return sector[r.At() : r.At()+size], nil
}
