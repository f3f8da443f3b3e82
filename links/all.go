package links

import (
	"iter"

	"croft/api"
	"croft/mem"
)

// All gives the addresses from the first on, while each one's prev is the one ahead of it. How many at most is settled at the beginning: who ranges may make a ring of the list meanwhile.
func (l *List) All() iter.Seq[uint64] {
	return func(yield func(uint64) bool) {
		left := committed(l.space) / linkBytes
		last := uint64(0)
	walk:
		for p, links := range l.chain() {
			switch {
			case links.prev != last: // spoilt, or a ring that closes
				break walk
			case left == 0: // a ring that is kept open, or links that overlap
				break walk
			case !yield(p):
				break walk
			}
			last = p
			left--
		}
	}
}

// chain follows next alone from the head on, as far as links are there: it may go in a ring. An address comes with its links as they stand at its turn, for they may be changed before the following one's.
func (l *List) chain() iter.Seq2[uint64, pair] {
	return func(yield func(uint64, pair) bool) {
		p := l.head
		for p != 0 {
			links, there := l.at(p)
			if !there || !yield(p, links) {
				return
			}
			p = links.next
		}
	}
}

// committed tells how many bytes are. A space tells its regions and its end, not its order: the greatest order whose regions still begin in committed memory is its own.
func committed(s *mem.Space) uint64 {
	regions, end := uint64(s.Regions()), s.End()
	for order := api.MaxOrder; order >= 0; order-- {
		size := regions * api.PageSize << order
		if _, e := s.Byte(end - size); e == api.OK { // past 0 it wraps round to where nothing is
			return size
		}
	}
	return 0 // no region
}
