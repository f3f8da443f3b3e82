package malloc

import (
	"croft/api"
	"croft/bits"
)

// UsableSize tells a block's size.
func (h *Heap) UsableSize(p uint64) (uint64, api.Errno) {
	h.guard.Lock()
	defer h.guard.Unlock()
	block, live := h.starts(p)
	if !live {
		return 0, api.EINVAL
	}
	return block.Size, api.OK
}

// Stats tells what is committed and live.
func (h *Heap) Stats() api.Stats {
	h.guard.Lock()
	defer h.guard.Unlock()
	s := api.Stats{H: h.committed()}
	for number := range h.pool.Map().Pages() {
		switch page, _ := h.pool.Map().At(number); page.Kind {
		case api.PageFree, api.PageFreeRest:
			s.FreePages++
		case api.PageBig:
			s.L += run(page)
			s.Blocks++
		case api.PageSlab:
			s.L += uint64(page.Live) * cell(page)
			s.Blocks += page.Live
		}
	}
	return s
}

// Live tells the live blocks, rising.
func (h *Heap) Live() []api.Block {
	h.guard.Lock()
	defer h.guard.Unlock()
	var list []api.Block
	for number := range h.pool.Map().Pages() {
		switch page, _ := h.pool.Map().At(number); page.Kind {
		case api.PageBig:
			list = append(list, api.Block{P: h.address(number), Size: run(page)})
		case api.PageSlab:
			list = append(list, h.cells(number, page)...)
		}
	}
	return list
}

// cells tells the live cells of a slab page, rising.
func (h *Heap) cells(number int, page api.Page) []api.Block {
	var list []api.Block
	size := cell(page)
	for p := h.address(number); p < h.address(number+1); p += size {
		if h.slab.Size(p) != 0 {
			list = append(list, api.Block{P: p, Size: size})
		}
	}
	return list
}

// starts tells the live block that begins at p, if there is one.
func (h *Heap) starts(p uint64) (api.Block, bool) {
	block, live := h.around(p)
	return block, live && block.P == p
}

// around tells the live block in which p lies, if there is one.
func (h *Heap) around(p uint64) (api.Block, bool) {
	number := int((p - h.config.Base) / api.PageSize) // below Base it wraps round, to past all pages
	page, _ := h.pool.Map().At(number)                // one that is not there is told like a free one
	switch page.Kind {
	case api.PageBig, api.PageBigRest:
		return api.Block{P: h.address(h.pool.Map().Head(number)), Size: run(page)}, true
	case api.PageSlab:
		first, _ := bits.Down(p, cell(page))
		return api.Block{P: first, Size: cell(page)}, h.slab.Size(first) != 0
	}
	return api.Block{}, false
}

// address tells where a page begins.
func (h *Heap) address(page int) uint64 { return h.config.Base + uint64(page)*api.PageSize }

// run tells the bytes of the block of pages to which a page belongs.
func run(page api.Page) uint64 { return api.PageSize << page.Order }

// cell tells the bytes of a slab page's cells.
func cell(page api.Page) uint64 { return api.MinSize << page.Class }
