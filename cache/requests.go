package cache

import (
	"math"

	"croft/api"
	"croft/bits"
)

// Malloc tells a worker a new block for size bytes.
func (s *Shared) Malloc(worker int, size uint64, deny bool) (uint64, api.Errno) {
	s.guard.Lock()
	defer s.guard.Unlock()
	return s.request(worker, 1, size, deny)
}

// Calloc tells a worker a new block of zeros.
func (s *Shared) Calloc(worker int, n, size uint64, deny bool) (uint64, api.Errno) {
	s.guard.Lock()
	defer s.guard.Unlock()
	return s.zeros(worker, n, size, deny)
}

// AlignedAlloc tells a worker a new block at a multiple of align.
func (s *Shared) AlignedAlloc(worker int, align, size uint64, deny bool) (uint64, api.Errno) {
	s.guard.Lock()
	defer s.guard.Unlock()
	return s.request(worker, align, size, deny)
}

// Realloc tells a worker a block for size bytes with what a block holds.
func (s *Shared) Realloc(worker int, p, size uint64, deny bool) (uint64, api.Errno) {
	s.guard.Lock()
	defer s.guard.Unlock()
	return s.resize(worker, p, size, deny)
}

// Free takes a block from a worker.
func (s *Shared) Free(worker int, p uint64) api.Errno {
	s.guard.Lock()
	defer s.guard.Unlock()
	return s.free(worker, p)
}

// request tells a worker a new block for size bytes at a multiple of align.
func (s *Shared) request(worker int, align, size uint64, deny bool) (uint64, api.Errno) {
	if !bits.IsPower(align) || !s.isWorker(worker) {
		return 0, api.EINVAL
	}
	r, e := s.sizeFor(align, size)
	if e != api.OK {
		return 0, e
	}
	return s.take(worker, r, deny)
}

// zeros tells a worker a new block of zeros.
func (s *Shared) zeros(worker int, n, size uint64, deny bool) (uint64, api.Errno) {
	if !s.isWorker(worker) {
		return 0, api.EINVAL
	}
	if n != 0 && size > math.MaxUint64/n {
		return 0, api.ETOOBIG
	}
	r, e := s.sizeFor(1, n*size)
	if e != api.OK {
		return 0, e
	}
	p, e := s.take(worker, r, deny)
	if e != api.OK {
		return 0, e
	}
	return p, s.heap.Write(p, make([]byte, r)) // one that was at hand holds what it held
}

// resize tells a worker a block for size bytes with what a block holds.
func (s *Shared) resize(worker int, p, size uint64, deny bool) (uint64, api.Errno) {
	if !s.isWorker(worker) {
		return 0, api.EINVAL
	}
	if p == 0 {
		return s.request(worker, 1, size, deny)
	}
	old, e := s.heap.UsableSize(s.seen(p))
	if e != api.OK {
		return 0, e
	}
	r, e := s.sizeFor(1, size)
	if e != api.OK {
		return 0, e
	}
	if r == old || api.PageSize <= r && r < old {
		return s.heap.Realloc(p, size, deny)
	}
	return s.move(worker, api.Block{P: p, Size: old}, r, deny)
}

// move tells a worker a new block of r bytes with what the old one holds. That one is handed out till the new one is found: so where none is found it stays.
func (s *Shared) move(worker int, old api.Block, r uint64, deny bool) (uint64, api.Errno) {
	p, e := s.take(worker, r, deny)
	if e != api.OK {
		return 0, e
	}
	held, _ := s.heap.Read(old.P, min(old.Size, r))
	s.heap.Write(p, held)
	return p, s.free(worker, old.P)
}

// free takes a block from a worker: to its hand, if that has room, else to the heap.
func (s *Shared) free(worker int, p uint64) api.Errno {
	if !s.isWorker(worker) {
		return api.EINVAL
	}
	if p == 0 {
		return api.OK
	}
	size, e := s.heap.UsableSize(s.seen(p))
	if e != api.OK {
		return e
	}
	if size >= api.PageSize {
		return s.heap.Free(p)
	}
	list := &s.hands[worker][class(size)]
	if len(*list) == s.depth {
		return s.heap.Free(p)
	}
	*list = append(*list, p)
	return api.OK
}

// take tells a worker a new block of a block's size. What is at hand must not be felt: ahead of a region that comes, and of an answer that there is no place, all of it goes back to the heap.
func (s *Shared) take(worker int, r uint64, deny bool) (uint64, api.Errno) {
	if p, is := s.fromHand(worker, r); is {
		return p, api.OK
	}
	p, e := s.heap.Malloc(r, true)
	if e != api.ENOMEM {
		return p, e
	}
	s.drain()
	return s.heap.Malloc(r, deny)
}

// fromHand tells the block of r bytes that came to a worker's hand last, if there is one; it is at hand no more.
func (s *Shared) fromHand(worker int, r uint64) (uint64, bool) {
	if r >= api.PageSize {
		return 0, false
	}
	list := &s.hands[worker][class(r)]
	last := len(*list) - 1
	if last < 0 {
		return 0, false
	}
	p := (*list)[last]
	*list = (*list)[:last]
	return p, true
}

// sizeFor tells the size for a request.
func (s *Shared) sizeFor(align, size uint64) (uint64, api.Errno) {
	r, ok := bits.Ceil(max(size, align, api.MinSize))
	if !ok || r > api.PageSize<<s.heap.Config().Order {
		return 0, api.ETOOBIG
	}
	return r, api.OK
}

// class tells that of a small size.
func class(r uint64) int { return bits.Log(r / api.MinSize) }
