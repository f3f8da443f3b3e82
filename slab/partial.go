package slab

// put heads the partial list of a class with a page.
func (s *Slab) put(page, class int) {
	old := s.heads[class]
	s.pool.Map().Chain(page, old, none)
	s.setPrev(old, page)
	s.heads[class] = page
}

// unlink takes a page off the partial list of a class.
func (s *Slab) unlink(page, class int) {
	slab, _ := s.pool.Map().At(page)
	s.setPrev(slab.Next, slab.Prev)
	if slab.Prev == none {
		s.heads[class] = slab.Next
	} else {
		s.setNext(slab.Prev, slab.Next)
	}
	s.pool.Map().Chain(page, none, none)
}

// setNext sets what is behind a page on its list. (Of none the map refuses it.)
func (s *Slab) setNext(page, next int) {
	slab, _ := s.pool.Map().At(page)
	s.pool.Map().Chain(page, next, slab.Prev)
}

// setPrev sets what is ahead of a page on its list.
func (s *Slab) setPrev(page, prev int) {
	slab, _ := s.pool.Map().At(page)
	s.pool.Map().Chain(page, slab.Next, prev)
}
