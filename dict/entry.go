package dict

import (
	"bytes"

	"croft/api"
)

const wordBytes = 8

// The words of an entry; behind them lie the key's bytes, then the value's.
const (
	next   = iota // entry of its place in the row
	ahead         // in the order of coming
	behind        // in the order of coming
	keyLength
	valueLength
	headWords // how many they are
)

// entry is one, as its words tell it.
type entry struct {
	p    uint64
	head [headWords]uint64
}

// wordAt tells the address of one of an entry's words; of one past the last, where the key begins.
func wordAt(p uint64, word int) uint64 { return p + wordBytes*uint64(word) }

func (x entry) keyAt() uint64 { return wordAt(x.p, headWords) }

func (x entry) valueAt() uint64 { return x.keyAt() + x.head[keyLength] }

// entryBytes tells how many bytes are asked for.
func entryBytes(key, value []byte) uint64 {
	return wordBytes*headWords + uint64(len(key)) + uint64(len(value))
}

// newEntry asks for one; in the order of coming it has no place yet.
func (t *Table) newEntry(after uint64, key, value []byte, deny bool) (uint64, api.Errno) {
	p, e := t.heap.Malloc(entryBytes(key, value), deny)
	if e != api.OK {
		return 0, e
	}
	x := entry{p, [headWords]uint64{next: after, keyLength: uint64(len(key)), valueLength: uint64(len(value))}}
	for word := range headWords {
		t.heap.StoreWord(wordAt(p, word), x.head[word])
	}
	t.heap.Write(x.keyAt(), key)
	t.heap.Write(x.valueAt(), value)
	return p, api.OK
}

// entryAt tells the entry at p. There is none at 0; nor where those next to it in the order of coming don't lead back to it: others may have freed entries or written into them, and a word may lead into any block then, which must not be taken for the table's.
func (t *Table) entryAt(p uint64) (entry, bool) {
	x := entry{p: p}
	for word := range headWords {
		v, e := t.heap.LoadWord(wordAt(p, word))
		if e != api.OK {
			return entry{}, false
		}
		x.head[word] = v
	}
	if !t.stands(x) {
		return entry{}, false
	}
	return x, true
}

// stands says whether those next to an entry in the order of coming, or the table's own ends, lead back to it.
func (t *Table) stands(x entry) bool {
	forth, back := t.first, t.last
	if x.head[ahead] != 0 {
		forth, _ = t.heap.LoadWord(wordAt(x.head[ahead], behind))
	}
	if x.head[behind] != 0 {
		back, _ = t.heap.LoadWord(wordAt(x.head[behind], ahead))
	}
	return forth == x.p && back == x.p
}

// join lets one entry stand right behind another in the order of coming; 0 stands for the table's own ends.
func (t *Table) join(one, other uint64) {
	if one == 0 {
		t.first = other
	} else {
		t.heap.StoreWord(wordAt(one, behind), other)
	}
	if other == 0 {
		t.last = one
	} else {
		t.heap.StoreWord(wordAt(other, ahead), one)
	}
}

// letGo takes an entry out of the order of coming, and frees it.
func (t *Table) letGo(x entry) {
	t.join(x.head[ahead], x.head[behind])
	t.moved(x.p, 0)
	t.heap.Free(x.p)
	t.keys--
}

func (t *Table) keyOf(x entry) []byte {
	key, _ := t.heap.Read(x.keyAt(), x.head[keyLength])
	return key
}

func (t *Table) valueOf(x entry) []byte {
	value, _ := t.heap.Read(x.valueAt(), x.head[valueLength])
	return value
}

// hasKey says whether an entry is that of a key. The lengths are held against each other first: most entries need no more.
func (t *Table) hasKey(x entry, key []byte) bool {
	return x.head[keyLength] == uint64(len(key)) && bytes.Equal(t.keyOf(x), key)
}
