package count

import "croft/api"

// Collect lets go of rings that nothing leads to.
func (s *Store) Collect() api.Swept {
	reached := s.reached()
	var told api.Swept
	for _, o := range s.inOrder() {
		if _, is := reached[o.p]; is {
			continue
		}
		told.Freed++
		told.Bytes += s.free(o, staying{})
	}
	return told
}

// reached tells the objects that are kept by hand, and all to which a way leads from these. Each waits at most once till its words are looked at, however many ways lead to it.
func (s *Store) reached() map[uint64]struct{} {
	reached := map[uint64]struct{}{}
	var waiting []*object
	meet := func(o *object) {
		if _, is := reached[o.p]; !is {
			reached[o.p] = struct{}{}
			waiting = append(waiting, o)
		}
	}
	for _, o := range s.objects {
		if o.kept > 0 {
			meet(o)
		}
	}
	for len(waiting) > 0 {
		last := len(waiting) - 1
		o := waiting[last]
		waiting = waiting[:last]
		for to := range s.referred(o) {
			meet(to)
		}
	}
	return reached
}
