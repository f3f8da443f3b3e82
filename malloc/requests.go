package malloc

import (
	"math"

	"croft/api"
	"croft/bits"
)

// Malloc tells a new block for size bytes.
func (h *Heap) Malloc(size uint64, deny bool) (uint64, api.Errno) {
	h.guard.Lock()
	defer h.guard.Unlock()
	return h.request(size, 1, deny)
}

// Calloc tells a new block of zeros.
func (h *Heap) Calloc(n, size uint64, deny bool) (uint64, api.Errno) {
	h.guard.Lock()
	defer h.guard.Unlock()
	if n != 0 && size > math.MaxUint64/n {
		return 0, api.ETOOBIG
	}
	r, e := h.sizeFor(n*size, 1)
	if e != api.OK {
		return 0, e
	}
	p, e := h.take(r, deny)
	if e != api.OK {
		return 0, e
	}
	return p, h.pool.Space().Fill(p, r, 0)
}

// AlignedAlloc tells a new block at a multiple of align.
func (h *Heap) AlignedAlloc(align, size uint64, deny bool) (uint64, api.Errno) {
	h.guard.Lock()
	defer h.guard.Unlock()
	if !bits.IsPower(align) {
		return 0, api.EINVAL
	}
	return h.request(size, align, deny)
}

// Realloc tells a block for size bytes with what a block holds.
func (h *Heap) Realloc(p, size uint64, deny bool) (uint64, api.Errno) {
	h.guard.Lock()
	defer h.guard.Unlock()
	if p == 0 {
		return h.request(size, 1, deny)
	}
	old, live := h.starts(p)
	if !live {
		return 0, api.EINVAL
	}
	r, e := h.sizeFor(size, 1)
	if e != api.OK {
		return 0, e
	}
	if r == old.Size {
		return p, api.OK
	}
	if api.PageSize <= r && r < old.Size {
		return p, h.pool.Buddy().Shrink(p, order(old.Size), order(r))
	}
	return h.move(old, r, deny)
}

// move tells a new block of r bytes with what the old one holds. That one is live till the new one is found: so the two are apart, and where none is found nothing has changed.
func (h *Heap) move(old api.Block, r uint64, deny bool) (uint64, api.Errno) {
	p, e := h.take(r, deny)
	if e != api.OK {
		return 0, e
	}
	h.pool.Space().Copy(p, old.P, min(old.Size, r))
	return p, h.give(old)
}

// Free gives a block back.
func (h *Heap) Free(p uint64) api.Errno {
	h.guard.Lock()
	defer h.guard.Unlock()
	if p == 0 {
		return api.OK
	}
	block, live := h.starts(p)
	if !live {
		return api.EINVAL
	}
	return h.give(block)
}

// request tells a new block for size bytes at a multiple of a power of 2.
func (h *Heap) request(size, align uint64, deny bool) (uint64, api.Errno) {
	r, e := h.sizeFor(size, align)
	if e != api.OK {
		return 0, e
	}
	return h.take(r, deny)
}

// sizeFor tells the size for a request.
func (h *Heap) sizeFor(size, align uint64) (uint64, api.Errno) {
	r, ok := bits.Ceil(max(size, align, api.MinSize))
	if !ok || r > api.PageSize<<h.config.Order {
		return 0, api.ETOOBIG
	}
	return r, api.OK
}

// take tells a new block of a block's size: small ones are the slab's, all others the pool's.
func (h *Heap) take(r uint64, deny bool) (p uint64, e api.Errno) {
	if r < api.PageSize {
		p, _, e = h.slab.Take(class(r), deny)
	} else {
		p, _, e = h.pool.Need(order(r), deny)
	}
	return p, e
}

// give gives a live block back to where it came from.
func (h *Heap) give(b api.Block) api.Errno {
	if b.Size < api.PageSize {
		return h.slab.Give(b.P)
	}
	return h.pool.Give(b.P, order(b.Size))
}

// class tells that of a small size.
func class(r uint64) int { return bits.Log(r / api.MinSize) }

// order tells that of a size of whole pages.
func order(r uint64) int { return bits.Log(r / api.PageSize) }
