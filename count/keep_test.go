package count_test

import (
	"testing"

	"croft/api"
)

// P18.4: kept so many times, it takes so many Drops; each but the last leaves it as it is.
func TestKeptManyTimes(t *testing.T) {
	for times := range 20 {
		s, h := begin(t, example())
		p := makes(t, s, 1, 8)
		writes(t, s, p, 0, []byte("it stays"))
		for i := range times {
			keeps(t, s, p)
			wantsCount(t, s, 2+i, p)
		}
		for i := range times {
			drops(t, s, p)
			wantsCount(t, s, times-i, p)
			wantsBytes(t, s, p, 0, []byte("it stays"))
			wantsSwept(t, s, 0, 0)
		}
		drops(t, s, p)
		wantsObjects(t, s)
		wantsLive(t, h)
		refusesObject(t, s, h, p)
	}
}

// P18.4: very many times.
func TestKeptVeryOften(t *testing.T) {
	s, _ := begin(t, example())
	p := makes(t, s, 0, 0)
	for range 1 << 17 {
		keeps(t, s, p)
	}
	wantsCount(t, s, 1<<17+1, p)
	for range 1 << 17 {
		drops(t, s, p)
	}
	wantsCount(t, s, 1, p)
}

// P18.4: one that is not kept by hand, but referred to: ESTATE, however often it is asked, and by how many words it is referred to; behind a Keep it may be dropped again.
func TestDropOfReferred(t *testing.T) {
	for words := 1; words <= 5; words++ {
		s, h := begin(t, config(1, 1))
		p, q := makes(t, s, 5, 0), makes(t, s, 1, 0)
		for word := range words {
			puts(t, s, p, word, q)
		}
		wantsCount(t, s, words+1, q)
		drops(t, s, q)
		for range 3 {
			refusesDrop(t, s, h, q, q)
			wantsCount(t, s, words, q)
		}
		keeps(t, s, q)
		wantsCount(t, s, words+1, q)
		drops(t, s, q)
		refusesDrop(t, s, h, q)
		wantsObjects(t, s, p, q)
	}
}

// P18.4: words that come and go keep nothing by hand, nor take from it.
func TestByHandAlone(t *testing.T) {
	s, h := begin(t, example())
	p, q := makes(t, s, 2, 0), makes(t, s, 0, 0)
	keeps(t, s, q)
	for range 5 {
		puts(t, s, p, 0, q)
		puts(t, s, p, 1, q)
		puts(t, s, p, 0, 0)
	}
	wantsCount(t, s, 3, q)
	drops(t, s, q, q)
	refusesDrop(t, s, h, q)
	keeps(t, s, q)
	puts(t, s, p, 1, 0)
	wantsCount(t, s, 1, q)
	wantsObjects(t, s, p, q)
	drops(t, s, q)
	wantsObjects(t, s, p)
}

// P18.4: one that refers to itself: its own words count, and Drop does not let it go by them; with the last word it goes.
func TestCountOfSelf(t *testing.T) {
	for words := 1; words <= 4; words++ {
		s, h := begin(t, example())
		p := makes(t, s, words, 0)
		for word := range words {
			puts(t, s, p, word, p)
			wantsCount(t, s, 2+word, p)
		}
		drops(t, s, p)
		wantsCount(t, s, words, p)
		refusesDrop(t, s, h, p)
		for word := range words {
			wantsCount(t, s, words-word, p)
			wantsObjects(t, s, p)
			puts(t, s, p, word, 0)
		}
		refusesObject(t, s, h, p)
		wantsLive(t, h)
	}
}

// P18.4, R2: EINVAL ahead of ESTATE: of what is no object, also where one was that was not kept by hand; an object that comes to its place begins anew.
func TestKeepOfNone(t *testing.T) {
	s, h := begin(t, example())
	refusesObject(t, s, h, noObjects(65536)...)
	p, q := makes(t, s, 1, 0), makes(t, s, 0, 0)
	hangs(t, s, p, 0, q)
	refusesObject(t, s, h, noObjects(p, q)...)
	refusesDrop(t, s, h, q)
	puts(t, s, p, 0, 0)
	refusesObject(t, s, h, q)
	wants(t, "Make", told(s.Make(0, 0, true)), answer{q, api.OK})
	wantsCount(t, s, 1, q)
	drops(t, s, q)
	refusesObject(t, s, h, q)
	theirs, _ := h.Malloc(16, true)
	refusesObject(t, s, h, theirs)
}

// P18.4: Keep and Drop of a ring's objects: it stays as long as one of them is kept, and then till a collection.
func TestDropOfRing(t *testing.T) {
	for many := 1; many <= 6; many++ {
		s, h := begin(t, example())
		ring := makesMany(t, s, many, 1, 0)
		chains(t, s, append(ring, ring[0])...)
		wantsCount(t, s, 2, ring...)
		for _, p := range ring {
			wantsSwept(t, s, 0, 0)
			drops(t, s, p)
			wantsObjects(t, s, ring...)
		}
		wantsCount(t, s, 1, ring...)
		keeps(t, s, ring[many-1]) // an object that is not reached is one till it goes
		wantsSwept(t, s, 0, 0)
		drops(t, s, ring[many-1])
		refusesDrop(t, s, h, ring...)
		wantsSwept(t, s, many, uint64(16*many))
		wantsObjects(t, s)
	}
}
