package dict

import "croft/api"

// firstWords is how many the least row has.
const firstWords = 8

// The numbers of a key's hash.
const (
	hashStart = 14695981039346656037
	hashTimes = 1099511628211
)

// row is words in the heap, each of which leads to the first entry of its place; p is 0 where there is none.
type row struct{ p, words uint64 }

// newRow asks for one that leads nowhere yet.
func (t *Table) newRow(words uint64, deny bool) (row, api.Errno) {
	p, e := t.heap.Calloc(words, wordBytes, deny)
	if e != api.OK {
		return row{}, e
	}
	return row{p, words}, api.OK
}

func hash(key []byte) uint64 {
	h := uint64(hashStart)
	for _, b := range key {
		h = (h ^ uint64(b)) * hashTimes
	}
	return h
}

// placeOf tells the address of the row's word for a key.
func (r row) placeOf(key []byte) uint64 { return r.p + wordBytes*(hash(key)%r.words) }

// hasRow says whether there is one, and nobody else has let go of it.
func (t *Table) hasRow() bool {
	size, e := t.heap.UsableSize(t.row.p)
	return e == api.OK && size == wordBytes*t.row.words
}

// find tells a key's entry, if it is there, and the address of the word that leads to it: that of the row, or of the entry ahead of it in its place's list. No list is longer than there are keys; one into which others have written may be a ring.
func (t *Table) find(key []byte) (from uint64, x entry, is bool) {
	if !t.hasRow() {
		return 0, entry{}, false
	}
	from = t.row.placeOf(key)
	for range t.keys {
		p, _ := t.heap.LoadWord(from)
		x, is = t.entryAt(p)
		if !is || t.hasKey(x, key) {
			return from, x, is
		}
		from = wordAt(p, next)
	}
	return 0, entry{}, false
}

// grow puts the entries into a row of twice the words, where there are more keys than words, and such a row can be and is given; where not the lists get longer.
func (t *Table) grow(deny bool) {
	words := 2 * t.row.words
	if uint64(t.keys) <= t.row.words || wordBytes*words > t.regionBytes() {
		return
	}
	r, e := t.newRow(words, deny)
	if e != api.OK {
		return
	}
	for x := range t.inOrder() {
		from := r.placeOf(t.keyOf(x))
		first, _ := t.heap.LoadWord(from)
		t.heap.StoreWord(wordAt(x.p, next), first)
		t.heap.StoreWord(from, x.p)
	}
	t.heap.Free(t.row.p)
	t.row = r
}
