package pagemap

import "croft/api"

const (
	wordBits = 64
	maxCells = api.PageSize / api.MinSize // of a page of the least class
)

// Slab makes a page a slab of a class, none of its cells live.
func (m *Map) Slab(page, class int) api.Errno {
	if !m.has(page) || class < 0 || class >= api.Classes {
		return api.EINVAL
	}
	slab := blank(api.PageSlab, 0)
	slab.Class = class
	m.pages[page] = slab
	return api.OK
}

// slab gives the place of a slab page, nil if there is none of that number.
func (m *Map) slab(page int) *api.Page {
	if !m.has(page) || m.pages[page].Kind != api.PageSlab {
		return nil
	}
	return &m.pages[page]
}

// hasCell tells whether a slab page has a cell of that number.
func hasCell(slab *api.Page, cell int) bool {
	return 0 <= cell && cell < maxCells>>slab.Class
}

// turned is the words with the bit of one cell turned.
func turned(words [4]uint64, cell int) [4]uint64 {
	words[cell/wordBits] ^= 1 << (cell % wordBits)
	return words
}

// isLive tells whether the bit of a cell is 1.
func isLive(words [4]uint64, cell int) bool {
	return words[cell/wordBits]>>(cell%wordBits)&1 == 1
}

// Own sets whether a cell is live.
func (m *Map) Own(page, cell int, live bool) api.Errno {
	slab := m.slab(page)
	if slab == nil || !hasCell(slab, cell) || isLive(slab.Bits, cell) == live {
		return api.EINVAL
	}
	slab.Bits = turned(slab.Bits, cell)
	if live {
		slab.Live++
	} else {
		slab.Live--
	}
	return api.OK
}

// Chain sets a slab page's neighbours in its partial list.
func (m *Map) Chain(page, next, prev int) api.Errno {
	slab := m.slab(page)
	if slab == nil || next != -1 && !m.has(next) || prev != -1 && !m.has(prev) {
		return api.EINVAL
	}
	slab.Next, slab.Prev = next, prev
	return api.OK
}

// First sets the cell that heads a slab page's list, -1 for none.
func (m *Map) First(page, cell int) api.Errno {
	slab := m.slab(page)
	if slab == nil || cell != -1 && !hasCell(slab, cell) {
		return api.EINVAL
	}
	slab.First = cell
	return api.OK
}
