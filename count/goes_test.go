package count_test

import (
	"bytes"
	"maps"
	"reflect"
	"runtime"
	"runtime/debug"
	"slices"
	"testing"

	"croft/api"
	"croft/count"
	"croft/malloc"
)

// tree makes one of some depth whose objects have so many words each; all but the first are kept by words alone. It tells them as the chapter's list has them: row by row.
func tree(t *testing.T, s *count.Store, words, depth int) []uint64 {
	t.Helper()
	all := []uint64{makes(t, s, words, 0)}
	row := all
	for range depth {
		var next []uint64
		for _, p := range row {
			for word := range words {
				q := makes(t, s, words, 0)
				hangs(t, s, p, word, q)
				next = append(next, q)
			}
		}
		all = append(all, next...)
		row = next
	}
	return all
}

// P18.4: Drop of a tree's first object lets the whole tree go at once; of a Put anew, the part that hung on the word.
func TestTreeGoes(t *testing.T) {
	for words := 1; words <= 3; words++ {
		for depth := range 5 {
			s, h := begin(t, config(2, 2))
			stays := makes(t, s, 1, 0)
			all := tree(t, s, words, depth)
			wantsCount(t, s, 1, all...)
			wantsSwept(t, s, 0, 0)
			puts(t, s, stays, 0, all[0])
			drops(t, s, all[0])
			wantsObjects(t, s, append([]uint64{stays}, all...)...)
			part := tree(t, s, words, depth)
			hangs(t, s, stays, 0, part[0])
			wantsObjects(t, s, append([]uint64{stays}, part...)...)
			keeps(t, s, part[0])
			drops(t, s, stays)
			wantsObjects(t, s, part...)
			drops(t, s, part[0])
			wantsObjects(t, s)
			wantsLive(t, h)
			refusesObject(t, s, h, part[len(part)-1], stays)
		}
	}
}

// Words: what is kept by hand, or by an object that stays, does not go with what goes, and counts what is left; what it keeps stays too.
func TestWhatStays(t *testing.T) {
	s, h := begin(t, config(1, 2))
	all := tree(t, s, 2, 3) // 15: the words of i refer to 2i + 1 and 2i + 2
	other := makes(t, s, 2, 0)
	keeps(t, s, all[1])
	puts(t, s, other, 0, all[5])
	puts(t, s, other, 1, all[14])
	wantsCount(t, s, 2, all[1], all[5], all[14])
	drops(t, s, all[0])
	wantsObjects(t, s, all[1], all[3], all[4], all[5], all[7], all[8], all[9], all[10], all[11], all[12], all[14], other)
	wantsCount(t, s, 1, s.Objects()...)
	puts(t, s, other, 0, 0)
	wantsObjects(t, s, all[1], all[3], all[4], all[7], all[8], all[9], all[10], all[14], other)
	drops(t, s, other, all[1])
	wantsObjects(t, s)
	wantsLive(t, h)
}

// Words: word by word: an object to which several words of one that goes refer has a count that is as many less.
func TestWordByWord(t *testing.T) {
	for words := 1; words <= 6; words++ {
		for rest := range 3 {
			s, _ := begin(t, config(1, 1))
			p, q := makes(t, s, words, 0), makes(t, s, 1, 0)
			for word := range words {
				puts(t, s, p, word, q)
			}
			for range rest {
				keeps(t, s, q)
			}
			drops(t, s, q)
			drops(t, s, p)
			if rest == 0 {
				wantsObjects(t, s)
				continue
			}
			wantsObjects(t, s, q)
			wantsCount(t, s, rest, q)
		}
	}
}

// P18.2: the count of to is one more ahead of what goes: what hung on the object that goes alone stays, if the word refers to it from now on.
func TestPutOfWhatHangs(t *testing.T) {
	s, _ := begin(t, example())
	list := makesMany(t, s, 4, 1, 8)
	hangsChain(t, s, list...)
	writes(t, s, list[2], 0, []byte("stays on"))
	puts(t, s, list[0], 0, list[2])
	wantsObjects(t, s, list[0], list[2], list[3])
	wantsCount(t, s, 1, list[0], list[2], list[3])
	wantsBytes(t, s, list[2], 0, []byte("stays on"))
	puts(t, s, list[0], 0, list[3])
	wantsObjects(t, s, list[0], list[3])
	puts(t, s, list[0], 0, list[0])
	wantsObjects(t, s, list[0])
	wantsCount(t, s, 2, list[0])
}

// P18.2: a Put by which the object itself goes: the word is to already, so that to has its count as it had, and goes too if it hung on what goes alone.
func TestPutLetsItselfGo(t *testing.T) {
	for _, kept := range []bool{true, false} {
		s, h := begin(t, example())
		list := makesMany(t, s, 3, 2, 0)
		a, b, c := list[0], list[1], list[2]
		chains(t, s, a, b, a)
		puts(t, s, b, 1, c)
		drops(t, s, a, b)
		wantsObjects(t, s, list...)
		if !kept {
			drops(t, s, c)
		}
		puts(t, s, a, 0, c)
		if kept {
			wantsObjects(t, s, c)
			wantsCount(t, s, 1, c)
			drops(t, s, c)
		}
		wantsObjects(t, s)
		wantsLive(t, h)
		refusesObject(t, s, h, list...)
	}
}

// P18.2: the ring falls asunder by a Put of the object itself, of 0, of the next but one: what goes, and what stays.
func TestPutIntoRing(t *testing.T) {
	const many = 5
	for to := -1; to < many; to++ { // -1: of 0
		s, _ := begin(t, example())
		ring := makesMany(t, s, many, 1, 0)
		chains(t, s, append(ring, ring[0])...)
		drops(t, s, ring...)
		if to < 0 {
			puts(t, s, ring[0], 0, 0)
			wantsObjects(t, s)
			continue
		}
		puts(t, s, ring[0], 0, ring[to])
		if to == 0 { // what is left refers to itself
			wantsObjects(t, s, ring[0])
			wantsSwept(t, s, 1, 16)
			continue
		}
		wantsObjects(t, s, append([]uint64{ring[0]}, ring[to:]...)...)
		wantsCount(t, s, 1, s.Objects()...)
		wantsSwept(t, s, many+1-to, uint64(16*(many+1-to)))
	}
}

// P18.4: a ring's neighbour: what refers to a ring goes without it, which has a count that is one less; what a ring refers to stays as long as the ring is there.
func TestNeighboursOfRing(t *testing.T) {
	s, h := begin(t, example())
	ring := makesMany(t, s, 3, 2, 0)
	chains(t, s, append(ring, ring[0])...)
	ahead, behind := makes(t, s, 1, 0), makes(t, s, 0, 0)
	puts(t, s, ahead, 0, ring[1])
	hangs(t, s, ring[2], 1, behind)
	drops(t, s, ring...)
	wantsSwept(t, s, 0, 0)
	wantsCount(t, s, 2, ring[1])
	drops(t, s, ahead)
	wantsObjects(t, s, append(ring, behind)...)
	wantsCount(t, s, 1, append(ring, behind)...)
	refusesDrop(t, s, h, behind)
	keeps(t, s, behind)
	wantsSwept(t, s, 3, 48)
	wantsObjects(t, s, behind)
	wantsCount(t, s, 1, behind)
	drops(t, s, behind)
	wantsLive(t, h)
}

// narrow lets no goroutine have a stack of more than some bytes while something is done: who goes along a chain by calls within calls ends there.
func narrow(most int, do func()) {
	defer debug.SetMaxStack(debug.SetMaxStack(most))
	do()
}

// P18.8: chains as long as there are objects, and there are as many as a heap can have; made forwards and backwards, let go by Drop and by Put, whole and in part.
func TestLongChains(t *testing.T) {
	const many = 1 << 18
	for _, back := range []bool{false, true} {
		s, h := begin(t, config(8, 4))
		list := makesMany(t, s, many, 2, 0)
		wants(t, "Make", told(s.Make(0, 0, false)), answer{0, api.ENOMEM})
		if back {
			slices.Reverse(list)
		}
		hangsChain(t, s, list...)
		narrow(1<<20, func() { wantsSwept(t, s, 0, 0) })
		keeps(t, s, list[many-3])
		narrow(1<<20, func() { puts(t, s, list[9], 0, 0) })
		if got := h.Stats().Blocks; got != 13 || len(s.Objects()) != 13 {
			t.Fatalf("%d blocks are live", got)
		}
		narrow(1<<20, func() { drops(t, s, list[0]) })
		drops(t, s, list[many-3])
		wantsLive(t, h)
		list = makesMany(t, s, many, 2, 0)
		hangsChain(t, s, list...)
		narrow(1<<20, func() { drops(t, s, list[0]) })
		wantsObjects(t, s)
		wantsLive(t, h)
	}
}

// P18.8: each that goes waits once, however many words of those that go refer to it: each object to all that come behind it.
func TestManyWords(t *testing.T) {
	const many = 500
	s, h := begin(t, config(4, 64))
	list := makesMany(t, s, many, 512, 0)
	for i, p := range list {
		for word := range 512 {
			if i+1 < many {
				puts(t, s, p, word, list[i+1+word%(many-1-i)])
			}
		}
	}
	drops(t, s, list[1:]...)
	wantsObjects(t, s, list...)
	var ahead, behind runtime.MemStats
	runtime.ReadMemStats(&ahead)
	drops(t, s, list[0])
	runtime.ReadMemStats(&behind)
	if used := behind.TotalAlloc - ahead.TotalAlloc; used > 1000*many {
		t.Errorf("%d objects that go have taken %d bytes", many, used)
	}
	wantsObjects(t, s)
	wantsLive(t, h)
}

// going is what one who knows the words of all objects tells of the order in which they are freed.
type going struct {
	words map[uint64][]uint64
	count map[uint64]int // of those that are left
}

// next lets all that a word of p refers to count one less, and tells those that fall to 0.
func (g *going) next(p uint64) []uint64 {
	var fall []uint64
	for _, to := range g.words[p] {
		if g.count[to]--; g.count[to] == 0 {
			fall = append(fall, to)
		}
	}
	return fall
}

// inRows is the chapter's order; deep goes with each one down to its end ahead of the next.
func (g *going) inRows(p uint64) []uint64 {
	list := []uint64{p}
	for i := 0; i < len(list); i++ {
		list = append(list, g.next(list[i])...)
	}
	return list
}

func (g *going) deep(p uint64) []uint64 {
	list := []uint64{p}
	for _, to := range g.next(p) {
		list = append(list, g.deep(to)...)
	}
	return list
}

// drawnWeb is a store whose objects lie in no order among blocks of others; each refers to some that were made ahead of it, so that there is no ring, and the last one leads to all. The twins are heaps of the same requests, which hold the same.
func drawnWeb(t *testing.T, row *numbers, many int) (s *count.Store, h *malloc.Heap, twins []*malloc.Heap, list []uint64, words map[uint64][]uint64) {
	t.Helper()
	c := config(4, 8)
	s, h = begin(t, c)
	for range many {
		twins = append(twins, newHeap(t, c))
	}
	words = map[uint64][]uint64{}
	loose := []uint64{}
	for i := range 10 + row.below(40) {
		size := 32 << oneOf(row, 0, 0, 0, 1, 6, 7, 7, 8)
		var p uint64
		if i%5 == 3 {
			p, _ = h.Calloc(1, uint64(size), false)
		} else {
			p = makes(t, s, size/8, 0)
			if n := min(len(loose), row.below(4)); n > 0 {
				words[p] = slices.Clone(loose[len(loose)-n:])
				loose = loose[:len(loose)-n]
			}
			if len(list) > 0 && row.below(2) == 0 {
				words[p] = append(words[p], oneOf(row, list...))
			}
			loose = append(loose, p)
			list = append(list, p)
		}
		for _, twin := range twins {
			wants(t, "the twin's", told(twin.Calloc(1, uint64(size), false)), answer{p, api.OK})
		}
	}
	last := makes(t, s, 64, 0)
	words[last] = loose
	list = append(list, last)
	for _, twin := range twins {
		wants(t, "the twin's", told(twin.Calloc(1, 512, false)), answer{last, api.OK})
	}
	for p, to := range words {
		for word, q := range to {
			puts(t, s, p, word, q)
			for _, twin := range twins {
				wantsError(t, "the twin's StoreWord", twin.StoreWord(p+uint64(8*word), q), api.OK)
			}
		}
	}
	return s, h, twins, list, words
}

// Words: those that go are freed in the list's order: seen by the heap as a whole, and by where later blocks lie, which is elsewhere if they go in another order.
func TestGoInOrder(t *testing.T) {
	elsewhere := [4]int{}
	for seed := range 80 {
		row := numbers(seed)
		s, h, twins, list, words := drawnWeb(t, &row, 4)
		last := list[len(list)-1]
		counts := map[uint64]int{}
		for _, to := range words {
			for _, q := range to {
				counts[q]++
			}
		}
		drops(t, s, list[:len(list)-1]...)
		wantsObjects(t, s, list...)
		back := (&going{words, maps.Clone(counts)}).inRows(last)
		slices.Reverse(back)
		for way, order := range [][]uint64{(&going{words, maps.Clone(counts)}).inRows(last), (&going{words, maps.Clone(counts)}).deep(last), list, back} {
			if len(order) != len(list) {
				t.Fatalf("%d go, not %d", len(order), len(list))
			}
			for _, p := range order {
				wantsError(t, "the twin's Free", twins[way].Free(p), api.OK)
			}
		}
		drops(t, s, last)
		wantsObjects(t, s)
		if !reflect.DeepEqual(h.Image(), twins[0].Image()) {
			t.Fatalf("seed %d: the heap is another than if they go in the list's order", seed)
		}
		for range 30 {
			size := uint64(32) << oneOf(&row, 0, 0, 1, 6, 7, 8)
			got := told(h.Malloc(size, false))
			for way, twin := range twins {
				if told(twin.Malloc(size, false)) != got {
					elsewhere[way]++
				}
			}
		}
	}
	if elsewhere[0] != 0 || slices.Contains(elsewhere[1:], 0) {
		t.Errorf("later blocks lie elsewhere: %v", elsewhere)
	}
}

// R6: what goes takes no block of others with it, nor what they hold, though they lie between.
func TestOthersStay(t *testing.T) {
	for _, collected := range []bool{false, true} {
		s, h := begin(t, config(3, 2))
		row := numbers(3)
		theirs := map[uint64][]byte{}
		var list []uint64
		for range 60 {
			list = append(list, makes(t, s, 1+row.below(30), 0))
			n := 16 << row.below(5)
			p, e := h.Malloc(uint64(n), false)
			wantsError(t, "the heap's Malloc", e, api.OK)
			theirs[p] = row.bytes(n)
			h.Write(p, theirs[p])
		}
		hangsChain(t, s, list...)
		if collected {
			puts(t, s, list[59], 0, list[0])
		}
		drops(t, s, list[0])
		if got := s.Collect(); collected != (got.Freed == 60) {
			t.Fatalf("Collect: %+v", got)
		}
		wantsObjects(t, s)
		if got := h.Live(); len(got) != len(theirs) {
			t.Fatalf("%d blocks are live, not %d", len(got), len(theirs))
		}
		for p, want := range theirs {
			if got, e := h.Read(p, uint64(len(want))); e != api.OK || !bytes.Equal(got, want) {
				t.Fatalf("the block at %d: %v, and it holds something else", p, e)
			}
		}
	}
}
