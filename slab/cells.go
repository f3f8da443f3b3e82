package slab

import "croft/api"

// sizes are the cells', class by class.
var sizes = [api.Classes]uint64{16, 32, 64, 128, 256, 512, 1024, 2048}

const wordBits = 64

// cells tells how many a page of a class has.
func cells(class int) int { return int(api.PageSize / sizes[class]) }

// cell is one of a slab page's, with that page as the map tells it.
type cell struct {
	page, number int
	slab         api.Page
}

// page tells the number of the page in which an address lies. Below Base it wraps round, to past all pages.
func (s *Slab) page(p uint64) int { return int((p - s.base) / api.PageSize) }

// address tells where a cell begins.
func (s *Slab) address(page, class, number int) uint64 {
	return s.base + uint64(page)*api.PageSize + uint64(number)*sizes[class]
}

// at tells the cell that begins at p, live or free, if there is one.
func (s *Slab) at(p uint64) (cell, bool) {
	page := s.page(p)
	slab, _ := s.pool.Map().At(page) // one that is not there is no slab page
	offset := (p - s.base) % api.PageSize
	size := sizes[slab.Class]
	if slab.Kind != api.PageSlab || offset%size != 0 {
		return cell{}, false
	}
	return cell{page, int(offset / size), slab}, true
}

// live tells the live cell that begins at p, if there is one.
func (s *Slab) live(p uint64) (cell, bool) {
	c, there := s.at(p)
	word := c.slab.Bits[c.number/wordBits]
	return c, there && word>>(c.number%wordBits)&1 == 1
}

// chain links all cells of the page at p, from the lowest to the highest.
func (s *Slab) chain(p uint64, class int) {
	last := p + api.PageSize - sizes[class]
	for ; p < last; p += sizes[class] {
		s.pool.Space().SetWord(p, p+sizes[class])
	}
	s.pool.Space().SetWord(last, 0)
}

// next tells the number of the cell behind the free one at p, by the word in that one; false, if the word leads to no cell of that page.
func (s *Slab) next(p uint64, page int) (int, bool) {
	word, e := s.pool.Space().Word(p)
	if word == 0 {
		return none, e == api.OK
	}
	c, there := s.at(word)
	return c.number, there && c.page == page
}

// enter heads the list of its page with the cell at p.
func (s *Slab) enter(c cell, p uint64) {
	behind := uint64(0)
	if c.slab.First != none {
		behind = s.address(c.page, c.slab.Class, c.slab.First)
	}
	s.pool.Space().SetWord(p, behind)
	s.pool.Map().First(c.page, c.number)
}
