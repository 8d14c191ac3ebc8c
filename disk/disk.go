// Package disk is layer 2: see shared/doc/02-disk.md.
package disk

import (
	"maps"
	"slices"

	"taproot/api"
)

// The kinds of fates that keep something; those of any other kind keep nothing.
const (
	kept = 1
	torn = 2
)

// sector is a sector's bytes.
type sector [api.Sector]byte

// Disk is pages, sector by sector.
type Disk struct {
	lasts []api.Page
	waits map[int]sector // as they are shown, by their numbers through all pages
	steps int
	fused bool
	fuse  int // steps that may be done yet, if it is fused
	down  bool
}

// New: an empty one.
func New(pages int) (*Disk, api.Errno) {
	if pages < api.MinPages || pages > api.MaxPages {
		return nil, api.ErrArg
	}
	return &Disk{lasts: make([]api.Page, pages), waits: map[int]sector{}}, api.OK
}

// Pages: how many.
func (d *Disk) Pages() int {
	if d == nil {
		return 0
	}
	return len(d.lasts)
}

// has: is there such a page?
func (d *Disk) has(at uint32) bool { return uint64(at) < uint64(d.Pages()) }

// Read: a page as it is shown.
func (d *Disk) Read(at uint32) (api.Page, api.Errno) {
	switch {
	case d == nil:
		return api.Page{}, api.ErrNil
	case d.down:
		return api.Page{}, api.ErrPower
	case !d.has(at):
		return api.Page{}, api.ErrPage
	}
	return d.shown(at), api.OK
}

// shown is a page as it lasts, with the sectors that wait laid over it.
func (d *Disk) shown(at uint32) api.Page {
	p := d.lasts[at]
	for i := range api.Sectors {
		if s, ok := d.waits[int(at)*api.Sectors+i]; ok {
			copy(p[i*api.Sector:], s[:])
		}
	}
	return p
}

// Lasts: a page as it lasts.
func (d *Disk) Lasts(at uint32) api.Page {
	if !d.has(at) {
		return api.Page{}
	}
	return d.lasts[at]
}

// Write: a page.
func (d *Disk) Write(at uint32, p api.Page) api.Errno {
	switch {
	case d == nil:
		return api.ErrNil
	case d.down:
		return api.ErrPower
	case !d.has(at):
		return api.ErrPage
	case !d.step():
		return api.ErrPower
	}
	for i := range api.Sectors {
		var s sector
		copy(s[:], p[i*api.Sector:])
		d.waits[int(at)*api.Sectors+i] = s
	}
	return api.OK
}

// Sync: what waits lasts.
func (d *Disk) Sync() api.Errno {
	switch {
	case d == nil:
		return api.ErrNil
	case d.down || !d.step():
		return api.ErrPower
	}
	for n, s := range d.waits {
		d.keep(n, s, api.Sector)
	}
	clear(d.waits)
	return api.OK
}

// step does a step, if the fuse lets it; else the power is gone.
func (d *Disk) step() bool {
	if d.fused && d.fuse == 0 {
		d.down = true
		return false
	}
	if d.fused {
		d.fuse--
	}
	d.steps++
	return true
}

// keep: the first bytes of a sector last.
func (d *Disk) keep(n int, s sector, bytes int) {
	from := n % api.Sectors * api.Sector
	copy(d.lasts[n/api.Sectors][from:], s[:bytes])
}

// Waits: the sectors that do.
func (d *Disk) Waits() []int {
	if d == nil {
		return nil
	}
	return slices.Sorted(maps.Keys(d.waits))
}

// Steps: how many were done.
func (d *Disk) Steps() int {
	if d == nil {
		return 0
	}
	return d.steps
}

// Fuse: so many steps more.
func (d *Disk) Fuse(n int) {
	if d == nil {
		return
	}
	d.fused, d.fuse = n >= 0, n
}

// Down: is the power gone?
func (d *Disk) Down() bool { return d != nil && d.down }

// Crash: what wasn't synced meets its fate.
func (d *Disk) Crash(fates []api.Fate) {
	if d == nil {
		return
	}
	for i, n := range d.Waits() {
		if i < len(fates) {
			d.keep(n, d.waits[n], spared(fates[i]))
		}
	}
	clear(d.waits)
	d.fused, d.down = false, false
}

// spared is how many of a sector's bytes a fate keeps.
func spared(f api.Fate) int {
	switch f.Kind {
	case kept:
		return api.Sector
	case torn:
		return min(max(f.Cut, 0), api.Sector)
	}
	return 0
}
