package icmp

import (
	"slices"

	"stagepost/addr"
	"stagepost/api"
)

// maxNow is the last tick at which a path MTU may be stored.
const maxNow = 1000000000

// Paths is a bounded table of path MTUs.
type Paths struct {
	// entries are in the order in which they were stored, at most one for an address.
	entries []path
}

// path is the path MTU of an address, with the tick at which it was stored. The zero path is no entry, because no size is 0.
type path struct {
	to, size, stored int
}

// New returns an empty table.
func New() *Paths { return &Paths{} }

// Size returns the largest datagram size for an address, given the interface MTU.
func (p *Paths) Size(now int, to int, mtu int) int {
	if p == nil {
		return mtu
	}
	if e := p.pathTo(to); e != (path{}) && e.fresh(now) {
		return min(mtu, e.size)
	}
	return mtu
}

// Lower records a path MTU, unless the table has one for that address that is no greater, and reports whether it did.
func (p *Paths) Lower(now int, to int, size int) bool {
	if p == nil || !within(now, 0, maxNow) || !addr.Valid(to) || !within(size, api.MinMtu, api.MaxPay) {
		return false
	}
	p.expire(now)
	old := p.pathTo(to)
	if old != (path{}) && old.size <= size {
		return false
	}
	p.remove(old)
	if len(p.entries) == api.MaxPaths {
		p.remove(p.entries[0])
	}
	p.entries = append(p.entries, path{to: to, size: size, stored: now})
	return true
}

// Len returns the number of entries, those that are no longer fresh among them.
func (p *Paths) Len() int {
	if p == nil {
		return 0
	}
	return len(p.entries)
}

// fresh reports whether the entry holds at a time; the sum does not wrap around, because stored is at most maxNow.
func (e path) fresh(now int) bool { return now < e.stored+api.PathOld }

// pathTo returns the entry for an address, fresh or not, or the zero path.
func (p *Paths) pathTo(to int) path {
	for _, e := range p.entries {
		if e.to == to {
			return e
		}
	}
	return path{}
}

// expire removes the entries that are not fresh.
func (p *Paths) expire(now int) {
	p.entries = slices.DeleteFunc(p.entries, func(e path) bool { return !e.fresh(now) })
}

// remove removes an entry, if it is one.
func (p *Paths) remove(old path) {
	p.entries = slices.DeleteFunc(p.entries, func(e path) bool { return e == old })
}
