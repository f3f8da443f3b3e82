package oracle

import (
	"croft/api"
	"croft/bits"
)

// none stands for the number of a block, where all of them are sound.
const none = -1

// page is one that meets blocks. All of them have one size.
type page struct {
	size  uint64
	cells *bits.Set // those that blocks have; of a greater block's page it is the whole page
}

// pages are those that meet blocks, by their numbers; one that meets none is not among them.
type pages map[uint64]page

// pagesOf tells the pages of blocks; or the number of the first block that can't lie with those ahead of it.
func pagesOf(c api.Config, regions int, list []api.Block) (pages, int) {
	if !mayBe(c) || regions < 0 || regions > c.Limit {
		return nil, 0
	}
	met := pages{}
	for number, b := range list {
		if !isBlock(c, regions, b) || !met.lay(b.P-c.Base, b.Size) {
			return nil, number
		}
	}
	return met, none
}

// isBlock tells whether b can be one, with so many regions. Base and the regions are multiples of its size: it ends in them where it begins there.
func isBlock(c api.Config, regions int, b api.Block) bool {
	return isSize(c, b.Size) && b.P%b.Size == 0 && b.P >= c.Base && b.P-c.Base < uint64(regions)*regionSize(c)
}

// lay lays a block onto its pages, if they have its place. The offset is counted from Base on.
func (met pages) lay(offset, size uint64) bool {
	for end := offset + size; offset < end; offset += api.PageSize {
		if !met.take(offset/api.PageSize, offset%api.PageSize, size) {
			return false
		}
	}
	return true
}

// take takes the cell that begins so far behind a page's first byte.
func (met pages) take(number, offset, size uint64) bool {
	at, is := met[number]
	if !is {
		at = page{size, bits.NewSet(int(cellsOf(size)))}
		met[number] = at
	}
	cell := int(offset / size)
	return at.size == size && !at.cells.Get(cell) && at.cells.Put(cell, true)
}

// cellsOf tells how many cells a page has for blocks of a size.
func cellsOf(size uint64) uint64 { return max(1, api.PageSize/size) }

// Sound tells whether blocks can be the live ones of a heap with so many regions: the number of the first that can't, or -1.
func Sound(c api.Config, regions int, live []api.Block) int {
	_, number := pagesOf(c, regions, live)
	return number
}
