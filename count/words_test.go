package count_test

import (
	"bytes"
	"testing"

	"croft/api"
	"croft/count"
)

// P18.2: each word of objects of many forms; one less than it has, one more, -1, and far out. The spare bytes of a block are no words.
func TestEachWord(t *testing.T) {
	for _, words := range []int{0, 1, 2, 3, 5, 17, 511, 512, 513} {
		s, h := begin(t, config(2, 2))
		p, q := makes(t, s, words, 11), makes(t, s, 0, 0)
		for word := range words {
			puts(t, s, p, word, q)
			wantsWord(t, s, p, word, q)
			if word > 0 {
				wantsCount(t, s, 3, q)
				puts(t, s, p, word-1, 0)
				wantsWord(t, s, p, word-1, 0)
				wantsWord(t, s, p, word, q)
			}
			wantsCount(t, s, 2, q)
		}
		refusesWord(t, s, h, p, -1, -2, -8, words, words+1, words+2, 2*words+1, 1<<20, 1<<60, 1<<61, 1<<61+1, 1<<62, top, bottom, bottom+1)
		wantsBytes(t, s, p, 0, make([]byte, 11))
	}
}

// P18.2: of what is no object: nothing stands, inside of one, beside one, far out.
func TestWordOfNone(t *testing.T) {
	s, h := begin(t, api.Config{Base: 65536, Limit: 2, Order: 0})
	refusesObject(t, s, h, noObjects(65536)...)
	refusesObject(t, s, h, 65536)
	p := makes(t, s, 4, 8)
	q := makes(t, s, 1, 0)
	refusesObject(t, s, h, noObjects(p, q)...)
	refusesObject(t, s, h, p+16, p+24, p+32, p+64, q+16)
}

// P18.2: Put of 0, of an object, of the object itself; of an address inside one, at its end, beside it, of one that went, of another's block, of another store's object.
func TestPutTo(t *testing.T) {
	s, h := begin(t, config(0, 3))
	list := makesMany(t, s, 3, 2, 0)
	p, q, gone := list[0], list[1], list[2]
	theirs, _ := h.Malloc(16, false)
	elsewhere := makes(t, count.New(h), 2, 0)
	puts(t, s, p, 0, q)
	hangs(t, s, p, 1, gone)
	puts(t, s, p, 1, p)
	wantsWord(t, s, p, 1, p)
	wantsObjects(t, s, p, q)
	for word := range 2 {
		refusesPut(t, s, h, p, word, noObjects(p, q)[1:]...)
		refusesPut(t, s, h, p, word, gone, theirs, elsewhere, elsewhere+16, p+16+8)
	}
	wantsWord(t, s, p, 0, q)
	wantsCount(t, s, 2, p, q)
	puts(t, s, p, 0, 0)
	puts(t, s, p, 0, 0)
	wantsWord(t, s, p, 0, 0)
	wantsWord(t, s, p, 1, p)
	wantsCount(t, s, 1, q)
	again := makes(t, s, 0, 1)
	if again != gone {
		t.Fatalf("the object is at %d, not at %d", again, gone)
	}
	puts(t, s, p, 0, again)
	wantsWord(t, s, p, 0, again)
	wantsCount(t, s, 2, again, p)
}

// Words: the words lie from the object's address on, eight bytes each, the lowest first, and the bytes behind them: seen by the heap, and nothing else there changes.
func TestWordsInTheHeap(t *testing.T) {
	c := api.Config{Base: 0x123456789a000, Limit: 1, Order: 0}
	s, h := begin(t, c)
	before, p, behind := makes(t, s, 4, 0), makes(t, s, 3, 7), makes(t, s, 4, 0)
	writes(t, s, p, 0, []byte{1, 2, 3, 4, 5, 6, 7})
	puts(t, s, p, 0, behind)
	puts(t, s, p, 2, p)
	want := []byte{0x40, 0xa0, 0x89, 0x67, 0x45, 0x23, 1, 0, 0, 0, 0, 0, 0, 0, 0, 0, 0x20, 0xa0, 0x89, 0x67, 0x45, 0x23, 1, 0, 1, 2, 3, 4, 5, 6, 7, 0}
	if held, _ := h.Read(p, 32); !bytes.Equal(held, want) {
		t.Errorf("the block holds %x, not %x", held, want)
	}
	for _, q := range []uint64{before, behind} {
		if held, _ := h.Read(q, 32); !bytes.Equal(held, make([]byte, 32)) {
			t.Errorf("an object beside it holds %x", held)
		}
	}
}

// R2, R3: a wrong object, a wrong word and a wrong to together are EINVAL, and a Put that is refused leaves the word.
func TestPutRefused(t *testing.T) {
	s, h := begin(t, example())
	p := makes(t, s, 1, 0)
	q := makes(t, s, 0, 0)
	puts(t, s, p, 0, q)
	for _, object := range []uint64{p, q, p + 8, 0, most} {
		for _, word := range edges() {
			for _, to := range []uint64{0, p, q, p + 8, 1, most} {
				if object == p && word == 0 && (to == 0 || to == p || to == q) {
					continue
				}
				unchanged(t, "Put", s, h, func() { wantsError(t, "Put", s.Put(object, word, to), api.EINVAL) })
			}
		}
	}
	wantsWord(t, s, p, 0, q)
	wantsCount(t, s, 2, q)
	wantsCount(t, s, 1, p)
}

// P18.2: of the object to which the word refers already: nothing changes, though the word alone keeps it.
func TestPutOfTheSame(t *testing.T) {
	s, h := begin(t, example())
	p, q := makes(t, s, 2, 0), makes(t, s, 1, 8)
	hangs(t, s, p, 1, q)
	puts(t, s, q, 0, q)
	writes(t, s, q, 0, []byte("the same"))
	for range 3 {
		unchanged(t, "Put of the same", s, h, func() {
			puts(t, s, p, 1, q)
			puts(t, s, q, 0, q)
		})
	}
	wantsCount(t, s, 2, q)
	puts(t, s, q, 0, 0)
	unchanged(t, "Put of the same", s, h, func() { puts(t, s, p, 1, q) })
	wantsCount(t, s, 1, q)
}

// P18.2: each word counts, two that refer to one object twice, an object's own words too; one that is put anew counts for the other alone.
func TestCountsOfWords(t *testing.T) {
	s, _ := begin(t, config(1, 2))
	p, q, r := makes(t, s, 600, 0), makes(t, s, 3, 0), makes(t, s, 0, 0)
	for word := range 600 {
		puts(t, s, p, word, q)
		wantsCount(t, s, 2+word, q)
	}
	for word := range 3 {
		puts(t, s, q, word, q)
		wantsCount(t, s, 602+word, q)
	}
	for word := range 600 {
		puts(t, s, p, word, r)
		wantsCount(t, s, 603-word, q)
		wantsCount(t, s, 2+word, r)
	}
	for word := range 600 {
		puts(t, s, p, word, 0)
		wantsCount(t, s, 600-word, r)
	}
	wantsCount(t, s, 4, q)
	wantsCount(t, s, 1, p, r)
}
