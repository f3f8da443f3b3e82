package pagemap

import (
	"croft/api"
	"croft/bits"
)

// Plain tells the map as plain data.
func (m *Map) Plain() (pages []api.Page, pairs [][]uint64) {
	pages = make([]api.Page, len(m.pages))
	copy(pages, m.pages)
	pairs = make([][]uint64, m.order)
	for order, set := range m.pairs {
		pairs[order] = set.Words()
	}
	return pages, pairs
}

// Open makes one of plain data.
func Open(order int, pages []api.Page, pairs [][]uint64) (*Map, api.Errno) {
	if order < 0 || order > api.MaxOrder || len(pages) > api.MaxPages || len(pages)%(1<<order) != 0 || len(pairs) != order {
		return nil, api.EFORM
	}
	m := New(order)
	m.resize(len(pages))
	for i, page := range pages {
		if page != m.clamped(page) {
			return nil, api.EFORM
		}
		m.pages[i] = page
	}
	for k, words := range pairs {
		if len(words) != len(m.pairs[k].Words()) {
			return nil, api.EFORM
		}
		m.pairs[k] = bits.Of(words, m.pairs[k].Len())
	}
	return m, api.OK
}

// clamped is a page with every field moved into its range: a page that was in range is the same as before.
func (m *Map) clamped(page api.Page) api.Page {
	last := len(m.pages) - 1
	return api.Page{
		Kind:  clamp(page.Kind, api.PageFree, api.PageSlab),
		Order: clamp(page.Order, 0, m.order),
		Class: clamp(page.Class, 0, api.Classes-1),
		Live:  clamp(page.Live, 0, maxCells),
		Next:  clamp(page.Next, -1, last),
		Prev:  clamp(page.Prev, -1, last),
		First: clamp(page.First, -1, maxCells-1),
		Bits:  page.Bits,
	}
}

func clamp(x, least, greatest int) int { return min(max(x, least), greatest) }
