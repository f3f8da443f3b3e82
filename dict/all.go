package dict

import (
	"iter"
	"slices"
)

// cursor is a range that goes on. It is told of what becomes of the entry at which it stands: an address alone would not do, as a block that was freed may come again for another key.
type cursor struct {
	p    uint64 // the entry that was given last, wherever it lies by now; 0, if it was deleted
	left int    // how many more may be given: in a ring that others have made, too, a range ends
}

// All gives the keys with their values, in the order in which the keys came.
func (t *Table) All() iter.Seq2[[]byte, []byte] {
	return func(yield func(key, value []byte) bool) {
		at := &cursor{left: t.keys}
		t.ranges = append(t.ranges, at)
		defer t.leave(at)
		x, is := t.entryAt(t.first)
		for is && at.left > 0 {
			at.p = x.p
			at.left--
			if !yield(t.keyOf(x), t.valueOf(x)) {
				return
			}
			x, is = t.following(at)
		}
	}
}

// following tells the entry that stands now behind the one that a range gave last.
func (t *Table) following(at *cursor) (entry, bool) {
	x, is := t.entryAt(at.p)
	if !is {
		return entry{}, false
	}
	return t.entryAt(x.head[behind])
}

// leave forgets a range that has ended.
func (t *Table) leave(at *cursor) {
	t.ranges = slices.DeleteFunc(t.ranges, func(other *cursor) bool { return other == at })
}

// moved tells the ranges that stand at an entry where it lies from now on: 0 for nowhere.
func (t *Table) moved(from, to uint64) {
	for _, at := range t.ranges {
		if at.p == from {
			at.p = to
		}
	}
}

// oneMore tells the ranges that one more key stands behind all.
func (t *Table) oneMore() {
	for _, at := range t.ranges {
		at.left++
	}
}

// inOrder gives the entries in the order of coming. The one that is given may be let go meanwhile.
func (t *Table) inOrder() iter.Seq[entry] {
	return func(yield func(entry) bool) {
		p := t.first
		for range t.keys {
			x, is := t.entryAt(p)
			if !is || !yield(x) {
				return
			}
			p = x.head[behind]
		}
	}
}
