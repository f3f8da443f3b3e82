package trace

import "croft/api"

// Weak tells a number that refers to an object without keeping it.
func (s *Store) Weak(object uint64) (int, api.Errno) {
	if !s.is(object) {
		return 0, api.EINVAL
	}
	s.weaks++
	s.weak[s.weaks] = object
	return s.weaks, api.OK
}

// Deref tells the object of such a number, 0 once it is gone.
func (s *Store) Deref(weak int) (uint64, api.Errno) {
	if weak < 1 || weak > s.weaks {
		return 0, api.EINVAL
	}
	return s.weak[weak], api.OK
}

// Final asks to be told when nothing leads to an object any more.
func (s *Store) Final(object uint64) api.Errno {
	o, is := s.objects[object]
	if !is {
		return api.EINVAL
	}
	o.final = true
	return api.OK
}

// Collect lets go of what nothing leads to. What is marked are the reached objects at first, and the kept ones behind that: so weak numbers are looked at between.
func (s *Store) Collect() api.Swept {
	for _, p := range s.names {
		s.mark(p)
	}
	s.loosen()
	list := s.inOrder()
	due := s.takeDue(list)
	for _, p := range due {
		s.mark(p)
	}
	freed, bytes := s.sweep(list)
	clear(s.marked)
	return api.Swept{Freed: freed, Due: due, Bytes: bytes}
}

// mark marks an object, and all to which a way leads from it.
func (s *Store) mark(p uint64) {
	waiting := s.meet(nil, p)
	for len(waiting) > 0 {
		last := len(waiting) - 1
		o := s.objects[waiting[last]]
		waiting = waiting[:last]
		for word := range o.words {
			to, _ := s.heap.LoadWord(o.wordAt(word)) // 0 where others have freed the block
			waiting = s.meet(waiting, to)
		}
	}
}

// meet marks what a word tells, if it is an object that is not marked yet, and puts it behind those that wait till their words are looked at: so none ever waits twice, however many ways lead to it.
func (s *Store) meet(waiting []uint64, p uint64) []uint64 {
	if !s.is(p) || s.isMarked(p) {
		return waiting
	}
	s.marked[p] = struct{}{}
	return append(waiting, p)
}

// isMarked says whether this collection has marked p.
func (s *Store) isMarked(p uint64) bool {
	_, is := s.marked[p]
	return is
}

// loosen lets each weak number whose object is not marked refer to nothing.
func (s *Store) loosen() {
	for weak, p := range s.weak {
		if !s.isMarked(p) {
			delete(s.weak, weak)
		}
	}
}

// takeDue tells the final ones of a list that are not marked; they are not final any more.
func (s *Store) takeDue(list []*object) []uint64 {
	var due []uint64
	for _, o := range list {
		if o.final && !s.isMarked(o.p) {
			o.final = false
			due = append(due, o.p)
		}
	}
	return due
}

// sweep frees those of a list that are not marked, one behind the other: their order shows in where later blocks lie. It tells how many there were, and the bytes of their blocks.
func (s *Store) sweep(list []*object) (freed int, bytes uint64) {
	for _, o := range list {
		if s.isMarked(o.p) {
			continue
		}
		size, _ := s.heap.UsableSize(o.p)
		s.heap.Free(o.p)
		delete(s.objects, o.p)
		freed++
		bytes += size
	}
	return freed, bytes
}
