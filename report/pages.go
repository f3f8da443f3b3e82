package report

import (
	"croft/api"
	"croft/bits"
	"croft/walk"
)

// sound tells whether an image is: only then do its pages mean what they say.
func sound(im api.Image) bool {
	rule, _ := walk.Check(im)
	return rule == 0
}

// isSize tells whether a block can have so many bytes. It asks for a Config that may be.
func isSize(c api.Config, r uint64) bool {
	return bits.IsPower(r) && r >= api.MinSize && r <= api.PageSize<<c.Order
}

// letter tells what a page is.
func letter(page api.Page) byte {
	switch page.Kind {
	case api.PageBig:
		return '0' + byte(page.Order)
	case api.PageBigRest:
		return '='
	case api.PageSlab:
		if freeCells(shapeOf(page)) == 0 {
			return 'A' + byte(page.Class)
		}
		return 'a' + byte(page.Class)
	}
	return '.'
}

// shape is what pages are counted by: those of one shape have room for the same.
type shape struct{ kind, order, class, live int }

func shapeOf(page api.Page) shape {
	return shape{page.Kind, page.Order, page.Class, page.Live}
}

// usable tells how many bytes blocks of size r can get, all together, without growth: a free block that is not too small can be cut into them whole, as pages of cells, too.
func usable(im api.Image, r uint64) uint64 {
	sum := uint64(0)
	for is, count := range tally(im.Pages, shapeOf) {
		sum += uint64(count) * room(is, r)
	}
	return sum
}

// room tells how many bytes such blocks can get of what begins at a page of that shape.
func room(is shape, r uint64) uint64 {
	switch is.kind {
	case api.PageFree:
		if size := uint64(api.PageSize) << is.order; size >= r {
			return size
		}
	case api.PageSlab:
		if cellSize(is) == r {
			return uint64(freeCells(is)) * r
		}
	}
	return 0
}

// cellSize tells the bytes of each cell of a slab page.
func cellSize(is shape) uint64 { return api.MinSize << is.class }

// freeCells tells how many cells of a slab page are not live.
func freeCells(is shape) int { return int(api.PageSize/cellSize(is)) - is.live }
