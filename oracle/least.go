package oracle

import (
	"croft/api"
	"croft/bits"
)

// Least tells the least number of regions in which blocks that stay, and others of these sizes, can lie.
func Least(c api.Config, stay []api.Block, sizes []uint64) (int, bool) {
	met, number := pagesOf(c, c.Limit, stay)
	if number != none {
		return 0, false
	}
	counts, ok := countsOf(c, sizes)
	if !ok {
		return 0, false
	}
	least := max(met.regions(c.Order), met.regionsFor(c.Order, met.need(counts)))
	if least > uint64(c.Limit) {
		return 0, false
	}
	return int(least), true
}

// countsOf tells how many there are of each size, if all of them are sizes of blocks.
func countsOf(c api.Config, sizes []uint64) (map[uint64]uint64, bool) {
	counts := map[uint64]uint64{}
	for _, size := range sizes {
		if !isSize(c, size) {
			return nil, false
		}
		counts[size]++
	}
	return counts, true
}

// need tells how many blocks of whole pages of each order are needed beside the pages that meet blocks. Nothing but cells can lie on a page that has cells: so they go there first, and only what is left over needs pages of its own.
func (met pages) need(counts map[uint64]uint64) [api.MaxOrder + 1]uint64 {
	var need [api.MaxOrder + 1]uint64
	for size, count := range counts {
		order := max(0, bits.Log(size/api.PageSize))
		rest := count - min(count, met.room(size))
		need[order] += upward(rest, cellsOf(size))
	}
	return need
}

// upward tells n / d, rounded up.
func upward(n, d uint64) uint64 { return (n + d - 1) / d }

// regions tells how many there must be for the pages that meet blocks to be committed.
func (met pages) regions(order int) uint64 {
	count := uint64(0)
	for number := range met {
		count = max(count, number>>order+1)
	}
	return count
}

// regionsFor tells in how many regions of that order there is room for what is needed, beside the pages that meet blocks. A stretch that meets none holds one block of its order, or two stretches of the order below: the greatest blocks being laid first, room is left for those of an order just if its stretches are as many as what meets them, what the greater blocks have of them, and these blocks.
func (met pages) regionsFor(top int, need [api.MaxOrder + 1]uint64) uint64 {
	count, taken := uint64(0), uint64(0)
	for order := top; order >= 0; order-- {
		taken = 2*taken + need[order]
		count = max(count, upward(taken+met.stretches(1<<order), 1<<(top-order)))
	}
	return count
}
