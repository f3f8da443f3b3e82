package count

import "croft/api"

// waiter is what waits for counts to fall: each time one does, it is told what to.
type waiter interface {
	fell(o *object, count int)
}

// leaving is the list of those that go: whose count falls to 0 comes behind it.
type leaving struct{ list []*object }

func (l *leaving) fell(o *object, count int) {
	if count == 0 {
		l.list = append(l.list, o)
	}
}

// first takes the first one off the list.
func (l *leaving) first() *object {
	o := l.list[0]
	l.list = l.list[1:]
	return o
}

// staying waits for nothing: by a collection none goes but those that it has found itself.
type staying struct{}

func (staying) fell(*object, int) {}

// fall takes one off an object's count, and tells what waits for that.
func (o *object) fall(w waiter) {
	o.count--
	w.fell(o, o.count)
}

// Keep keeps an object once more.
func (s *Store) Keep(object uint64) api.Errno {
	o, is := s.objects[object]
	if !is {
		return api.EINVAL
	}
	o.kept++
	o.count++
	return api.OK
}

// Drop lets it go once.
func (s *Store) Drop(object uint64) api.Errno {
	o, is := s.objects[object]
	if !is {
		return api.EINVAL
	}
	if o.kept == 0 {
		return api.ESTATE
	}
	o.kept--
	s.release(o)
	return api.OK
}

// Count tells an object's count.
func (s *Store) Count(object uint64) (int, api.Errno) {
	o, is := s.objects[object]
	if !is {
		return 0, api.EINVAL
	}
	return o.count, api.OK
}

// release takes one off an object's count; if nothing is left of it the object goes, and with it what only it has kept. A list, not calls within calls: a chain may be as long as there are objects.
func (s *Store) release(o *object) {
	l := &leaving{}
	o.fall(l)
	for len(l.list) > 0 {
		s.free(l.first(), l)
	}
}

// free lets an object be none any more: to what its words refer has a count that is one less for each, and its block is given back. It tells how many bytes that had.
func (s *Store) free(o *object, w waiter) uint64 {
	for to := range s.referred(o) {
		to.fall(w)
	}
	size, _ := s.heap.UsableSize(o.p)
	s.heap.Free(o.p)
	delete(s.objects, o.p)
	return size
}
