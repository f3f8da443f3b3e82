package arena

import (
	"cmp"
	"slices"

	"croft/api"
)

// point is a mark: what there was when it was asked for.
type point struct {
	number, chunks int
	taken, used    uint64
}

// book is what an arena keeps for its marks.
type book struct {
	asked    int     // how many there were ever: that is the next one's number
	standing []point // one behind the other: so their numbers rise
}

// marked tells the arena's book.
func (a *Arena) marked() *book {
	a.first.Do(func() { a.marks = &book{} })
	return a.marks
}

// find tells where a mark stands among those that stand, if it does.
func (b *book) find(mark int) (int, bool) {
	return slices.BinarySearchFunc(b.standing, mark, func(m point, mark int) int { return cmp.Compare(m.number, mark) })
}

// Mark tells a number for what stands now.
func (a *Arena) Mark() int {
	b := a.marked()
	number := b.asked
	b.asked++
	b.standing = append(b.standing, point{number: number, chunks: len(a.chunks), taken: a.taken, used: a.used})
	return number
}

// Release gives back all that came behind a mark.
func (a *Arena) Release(mark int) api.Errno {
	b := a.marked()
	at, stands := b.find(mark)
	if !stands {
		return api.ESTATE
	}
	a.backTo(b.standing[at])
	b.standing = b.standing[:at]
	return api.OK
}

// Reset gives back all.
func (a *Arena) Reset() {
	a.backTo(point{})
	b := a.marked()
	b.standing = b.standing[:0]
}

// backTo makes what stands what a mark says. A chunk's Free is deferred as the chunk is met: so the last one is the first to go.
func (a *Arena) backTo(m point) {
	for _, c := range a.chunks[m.chunks:] {
		defer a.heap.Free(c.P)
	}
	a.chunks, a.taken, a.used = a.chunks[:m.chunks], m.taken, m.used
}
