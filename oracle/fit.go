package oracle

import "croft/api"

// NoFit tells whether no place for a block of size r stands among the live ones.
func NoFit(c api.Config, regions int, live []api.Block, r uint64) bool {
	met, number := pagesOf(c, regions, live)
	if number != none || !isSize(c, r) {
		return false
	}
	long := max(r, api.PageSize) / api.PageSize
	return met.stretches(long) == uint64(regions)<<c.Order/long && met.room(r) == 0
}

// Stuck tells whether a request for a block of size r must fail.
func Stuck(c api.Config, regions int, live []api.Block, r uint64, deny bool) bool {
	return (deny || regions == c.Limit) && NoFit(c, regions, live, r)
}

// stretches tells how many stretches of so many pages, at a multiple of that, meet blocks. Base is a multiple of a region, so that numbers will do for addresses.
func (met pages) stretches(long uint64) uint64 {
	count := map[uint64]int{}
	for number := range met {
		count[number/long]++
	}
	return uint64(len(count))
}

// room tells how many cells are left on the pages that have blocks of a size.
func (met pages) room(size uint64) uint64 {
	left := 0
	for _, at := range met {
		if at.size == size {
			left += at.cells.Len() - at.cells.Count()
		}
	}
	return uint64(left)
}
