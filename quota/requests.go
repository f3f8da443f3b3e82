package quota

import (
	"croft/api"
	"croft/oracle"
)

// Malloc tells an owner a new block for size bytes.
func (b *Bank) Malloc(owner int, size uint64, deny bool) (p uint64, e api.Errno) {
	o, is := b.owners[owner]
	if !is {
		return 0, api.EINVAL
	}
	r, e := oracle.Round(b.heap.Config(), size, 1)
	if e != api.OK {
		return 0, e
	}
	if !o.admits(r) {
		return 0, api.EQUOTA
	}
	defer func() { // here and below: the sums follow what the heap has done, nothing else
		if e == api.OK {
			o.enter(p, r)
		}
	}()
	return b.heap.Malloc(size, deny)
}

// Realloc tells an owner a block for size bytes with what a block of its holds.
func (b *Bank) Realloc(owner int, p, size uint64, deny bool) (to uint64, e api.Errno) {
	if p == 0 {
		return b.Malloc(owner, size, deny)
	}
	o, old, e := b.find(owner, p)
	if e != api.OK {
		return 0, e
	}
	r, e := oracle.Round(b.heap.Config(), size, 1)
	if e != api.OK {
		return 0, e
	}
	if r > old && !o.admits(r-old) {
		return 0, api.EQUOTA
	}
	defer func() {
		if e == api.OK {
			o.strike(p)
			o.enter(to, r)
		}
	}()
	return b.heap.Realloc(p, size, deny)
}

// Free gives one of an owner's blocks back.
func (b *Bank) Free(owner int, p uint64) (e api.Errno) {
	if b.owners[owner] != nil && p == 0 {
		return api.OK
	}
	o, _, e := b.find(owner, p)
	if e != api.OK {
		return e
	}
	defer func() {
		if e == api.OK {
			o.strike(p)
		}
	}()
	return b.heap.Free(p)
}

// Pass gives one of an owner's blocks to another owner.
func (b *Bank) Pass(owner int, p uint64, to int) api.Errno {
	from, size, e := b.find(owner, p)
	if e != api.OK {
		return e
	}
	other, is := b.owners[to]
	if !is {
		return api.EINVAL
	}
	if to != owner && !other.admits(size) {
		return api.EQUOTA
	}
	defer func() {
		from.strike(p)
		other.enter(p, size)
	}()
	return api.OK
}

// find tells an owner, and the size of its block that begins at p; EINVAL, if there is no such owner, or it has no such block.
func (b *Bank) find(owner int, p uint64) (*account, uint64, api.Errno) {
	o, is := b.owners[owner]
	if !is {
		return nil, 0, api.EINVAL
	}
	size, has := o.blocks[p]
	if !has {
		return nil, 0, api.EINVAL
	}
	return o, size, api.OK
}
