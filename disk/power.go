package disk

import (
	"maps"
	"slices"

	"dowel/api"
)

// Limit lets power fail behind some operations; a negative number takes the limit away.
func (d *Disk) Limit(operations int) api.Errno {
	if e := d.check(); e != api.OK {
		return e
	}
	d.isLimited, d.left = operations >= 0, max(0, operations)
	return api.OK
}

// Crash turns the disk off.
func (d *Disk) Crash() {
	if d != nil {
		d.isDown = true
	}
}

// Down reports whether the disk is off.
func (d *Disk) Down() bool { return d != nil && d.isDown }

// choices returns a function that takes the numbers of a script one after another, and chooses by each of them from 0 to a number.
func choices(script []int) func(most int) int {
	next := 0
	return func(most int) int {
		chosen := 0
		if next < len(script) {
			chosen = max(0, script[next]%(most+1))
		}
		next++
		return chosen
	}
}

// Start turns the disk on again; the script chooses what is left of all that was not durable.
func (d *Disk) Start(script []int) {
	if d == nil || !d.isDown {
		return
	}
	choose := choices(script)
	for _, x := range d.pending[:choose(len(d.pending))] {
		x(d.durable, itself)
	}
	d.names, d.pending = d.durable, nil
	for _, name := range slices.Sorted(maps.Keys(d.names)) {
		d.names[name].fail(choose)
	}
	d.durable = maps.Clone(d.names)
	d.isDown, d.isLimited, d.left = false, false, 0
}

// fail keeps as many of the bytes that are not durable as are chosen, the last one perhaps damaged.
func (f *file) fail(choose func(most int) int) {
	kept := choose(len(f.data) - f.durable)
	f.data = f.data[:f.durable+kept]
	if kept > 0 && choose(1) == 1 {
		f.data[len(f.data)-1] ^= 0xff
	}
	f.durable = len(f.data)
}

// Clone returns an independent disk in the same state.
func (d *Disk) Clone() *Disk {
	if d == nil {
		return nil
	}
	copies := map[*file]*file{}
	copied := func(f *file) *file {
		if copies[f] == nil {
			copies[f] = &file{slices.Clone(f.data), f.durable}
		}
		return copies[f]
	}
	c := *d
	c.names, c.durable, c.pending = map[string]*file{}, map[string]*file{}, nil
	for name, f := range d.names {
		c.names[name] = copied(f)
	}
	for name, f := range d.durable {
		c.durable[name] = copied(f)
	}
	for _, x := range d.pending {
		// A file that is new, and has lost its name again, must be copied before it changes.
		x(map[string]*file{}, copied)
		c.pending = append(c.pending, func(names map[string]*file, replaced func(*file) *file) {
			x(names, func(f *file) *file { return replaced(copied(f)) })
		})
	}
	return &c
}
