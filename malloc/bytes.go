package malloc

import "croft/api"

const wordBytes = 8

// within says whether n bytes from p on, one at least, lie in one live block.
func (h *Heap) within(p, n uint64) bool {
	block, live := h.around(p)
	return live && n <= block.P+block.Size-p // p + n might wrap round
}

// Load tells a live byte.
func (h *Heap) Load(p uint64) (byte, api.Errno) {
	h.guard.Lock()
	defer h.guard.Unlock()
	if !h.within(p, 1) {
		return 0, api.EFAULT
	}
	return h.pool.Space().Byte(p)
}

// Store sets one.
func (h *Heap) Store(p uint64, v byte) api.Errno {
	h.guard.Lock()
	defer h.guard.Unlock()
	if !h.within(p, 1) {
		return api.EFAULT
	}
	return h.pool.Space().SetByte(p, v)
}

// LoadWord tells eight bytes of one block, the lowest first.
func (h *Heap) LoadWord(p uint64) (uint64, api.Errno) {
	h.guard.Lock()
	defer h.guard.Unlock()
	if !h.within(p, wordBytes) {
		return 0, api.EFAULT
	}
	return h.pool.Space().Word(p)
}

// StoreWord sets eight.
func (h *Heap) StoreWord(p, v uint64) api.Errno {
	h.guard.Lock()
	defer h.guard.Unlock()
	if !h.within(p, wordBytes) {
		return api.EFAULT
	}
	return h.pool.Space().SetWord(p, v)
}

// Read tells n bytes of one block.
func (h *Heap) Read(p, n uint64) ([]byte, api.Errno) {
	h.guard.Lock()
	defer h.guard.Unlock()
	if n > 0 && !h.within(p, n) {
		return nil, api.EFAULT
	}
	return h.pool.Space().Read(p, n)
}

// Write sets bytes of one block.
func (h *Heap) Write(p uint64, b []byte) api.Errno {
	h.guard.Lock()
	defer h.guard.Unlock()
	if len(b) > 0 && !h.within(p, uint64(len(b))) {
		return api.EFAULT
	}
	return h.pool.Space().Write(p, b)
}
