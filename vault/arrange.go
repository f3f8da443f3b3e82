package vault

import (
	"cmp"
	"slices"

	"croft/api"
)

// arrange gives each block that is not pinned a place in so many regions.
func (v *Vault) arrange(regions int) {
	stay, movers := v.parted()
	slices.SortFunc(stay, func(one, other *block) int { return cmp.Compare(one.P, other.P) })
	slices.SortFunc(movers, func(one, other *block) int {
		return cmp.Or(cmp.Compare(other.Size, one.Size), cmp.Compare(one.handle, other.handle))
	})
	c := v.heap.Config()
	g := &ground{base: c.Base, met: make([]bool, regions<<c.Order), left: map[uint64][]uint64{}}
	for _, b := range stay {
		g.keep(b.Block)
	}
	for _, b := range movers {
		b.P = g.place(b.Size)
	}
}

// parted tells the blocks that are pinned, and those that may move; both in any order.
func (v *Vault) parted() (stay, movers []*block) {
	for _, b := range v.blocks {
		if b.pins > 0 {
			stay = append(stay, b)
		} else {
			movers = append(movers, b)
		}
	}
	return stay, movers
}

// places tells where blocks lie.
func places(list []*block) []api.Block {
	var told []api.Block
	for _, b := range list {
		told = append(told, b.Block)
	}
	return told
}

// ground is the room in which blocks are arranged. A stretch of it is given to blocks of one size: as many pages as one of them has, or one page. The cells of a stretch are its places for such blocks.
type ground struct {
	base uint64
	met  []bool              // for each page whether it meets a block
	left map[uint64][]uint64 // for each size the cells that are left on stretches which were given to it, rising
}

// keep takes the cell of a block that stays. They come rising: so what is left on the stretches rises, too.
func (g *ground) keep(b api.Block) {
	first := int((b.P - g.base) / api.PageSize)
	if !g.met[first] {
		g.give(first, b.Size)
	}
	cells := g.left[b.Size]
	at, _ := slices.BinarySearch(cells, b.P)
	g.left[b.Size] = slices.Delete(cells, at, at+1)
}

// place takes the lowest cell that is left for a size, or else the first one of the lowest stretch that meets nothing.
func (g *ground) place(size uint64) uint64 {
	if len(g.left[size]) == 0 {
		g.give(g.lowest(size), size)
	}
	cells := g.left[size]
	g.left[size] = cells[1:]
	return cells[0]
}

// lowest tells the first page of the lowest stretch for a size that meets no block. There is one: nobody asks for more than there is room for.
func (g *ground) lowest(size uint64) int {
	first, long := 0, pages(size)
	for slices.Contains(g.met[first:first+long], true) {
		first += long
	}
	return first
}

// give gives the stretch from a page on to blocks of a size.
func (g *ground) give(first int, size uint64) {
	for page := first; page < first+pages(size); page++ {
		g.met[page] = true
	}
	p := g.base + uint64(first)*api.PageSize
	for end := p + max(size, api.PageSize); p < end; p += size {
		g.left[size] = append(g.left[size], p)
	}
}

// pages tells how many pages a stretch for blocks of a size has.
func pages(size uint64) int { return int(max(size, api.PageSize) / api.PageSize) }
