package count_test

import (
	"reflect"
	"runtime"
	"slices"
	"testing"

	"croft/api"
	"croft/count"
)

// P18.5: of a store without objects, again and again; what others have on the heap stays.
func TestNothingToCollect(t *testing.T) {
	s, h := begin(t, example())
	for range 3 {
		unchanged(t, "Collect", s, h, func() {
			wantsSwept(t, s, 0, 0)
			wantsSwept(t, s, 0, 0)
		})
		h.Malloc(16, false)
	}
	p := makes(t, s, 1, 0)
	unchanged(t, "Collect", s, h, func() { wantsSwept(t, s, 0, 0) })
	puts(t, s, p, 0, p)
	unchanged(t, "Collect", s, h, func() { wantsSwept(t, s, 0, 0) })
	drops(t, s, p)
	wantsSwept(t, s, 1, 16)
	unchanged(t, "Collect", s, h, func() { wantsSwept(t, s, 0, 0) })
	wantsLive(t, h, api.Block{P: 65536, Size: 16}, api.Block{P: 65552, Size: 16}, api.Block{P: 65568, Size: 16})
}

// P18.5: rings of any number that nobody keeps go, those that are kept at any place stay whole; each counts as before.
func TestRings(t *testing.T) {
	for many := 1; many <= 8; many++ {
		for kept := range many + 1 {
			s, h := begin(t, example())
			ring := makesMany(t, s, many, 2, 0)
			for i, p := range ring {
				puts(t, s, p, i%2, ring[(i+1)%many])
			}
			other := makesMany(t, s, 2, 2, 0)
			chains(t, s, other[0], other[1], other[0])
			puts(t, s, other[0], 1, ring[0]) // it leads there, not back
			drops(t, s, other...)
			for i, p := range ring {
				if i != kept {
					drops(t, s, p)
				}
			}
			wantsObjects(t, s, append(ring, other...)...)
			if kept == many {
				wantsSwept(t, s, many+2, uint64(16*many+32))
				wantsLive(t, h)
				continue
			}
			wantsSwept(t, s, 2, 32)
			wantsObjects(t, s, ring...)
			for i, p := range ring {
				if i == kept {
					wantsCount(t, s, 2, p)
				} else {
					wantsCount(t, s, 1, p)
				}
			}
			drops(t, s, ring[kept])
			wantsSwept(t, s, many, uint64(16*many))
			wantsLive(t, h)
		}
	}
}

// P18.5: rings that refer to reached objects, by one word and by several: behind the collection these words count no more, and the object goes with its last Drop, or the last word.
func TestRingsReferToReached(t *testing.T) {
	for words := 1; words <= 4; words++ {
		for many := 1; many <= 4; many++ {
			s, h := begin(t, config(1, 1))
			ring := makesMany(t, s, many, 1+words, 0)
			chains(t, s, append(ring, ring[0])...)
			p, q := makes(t, s, 1, 8), makes(t, s, 0, 0)
			hangs(t, s, p, 0, q)
			writes(t, s, p, 0, []byte("it stays"))
			for _, one := range ring {
				for word := range words {
					puts(t, s, one, 1+word, oneOf2(word%2 == 0, p, q))
				}
			}
			wantsCount(t, s, 1+many*((words+1)/2), p)
			wantsCount(t, s, 1+many*(words/2), q)
			drops(t, s, ring...)
			size, _ := h.UsableSize(ring[0])
			wantsSwept(t, s, many, uint64(many)*size)
			wantsObjects(t, s, p, q)
			wantsCount(t, s, 1, p, q)
			wantsBytes(t, s, p, 0, []byte("it stays"))
			wantsWord(t, s, p, 0, q)
			drops(t, s, p)
			wantsObjects(t, s)
			wantsLive(t, h)
		}
	}
}

// oneOf2 tells the first if it is so, else the second.
func oneOf2(is bool, first, second uint64) uint64 {
	if is {
		return first
	}
	return second
}

// P18.5: rings within rings, with what hangs on them: by one that is kept all stay; without it all go at once.
func TestRingsWithinRings(t *testing.T) {
	for inner := range 4 {
		s, h := begin(t, config(1, 2))
		var all []uint64
		outer := makesMany(t, s, 4, 3, 0)
		chains(t, s, append(outer, outer[0])...)
		all = append(all, outer...)
		for i, p := range outer { // a ring that goes through p, and one on that ring
			ring := makesMany(t, s, 3, 3, 0)
			puts(t, s, p, 1, ring[0])
			chains(t, s, ring...)
			puts(t, s, ring[2], 0, p)
			self := makes(t, s, 3, 0)
			puts(t, s, ring[1], 1, self)
			puts(t, s, self, 0, self)
			puts(t, s, self, 1, ring[i%3])
			leaf := makes(t, s, 0, 1)
			puts(t, s, self, 2, leaf)
			all = append(all, append(ring, self, leaf)...)
		}
		kept := all[4+5*inner+3] // the one that refers to itself, deep inside
		keeps(t, s, kept)
		drops(t, s, all...)
		wantsSwept(t, s, 0, 0)
		wantsObjects(t, s, all...)
		drops(t, s, kept)
		wantsObjects(t, s, all...)
		wantsSwept(t, s, 24, 20*32+4*16)
		wantsLive(t, h)
	}
}

// P18.5: what hangs on a ring goes with it, though it is in no ring itself; what such a thing shares with a kept one stays.
func TestWhatHangsOnRings(t *testing.T) {
	s, _ := begin(t, config(1, 1))
	p := makes(t, s, 2, 0)
	puts(t, s, p, 0, p)
	hung := tree(t, s, 2, 3)
	kept := makes(t, s, 1, 0)
	puts(t, s, kept, 0, hung[2])
	hangs(t, s, p, 1, hung[0])
	drops(t, s, p)
	wantsObjects(t, s, append(append([]uint64{p}, hung...), kept)...)
	wantsSwept(t, s, 9, 9*16)
	wantsObjects(t, s, hung[2], hung[5], hung[6], hung[11], hung[12], hung[13], hung[14], kept)
	wantsCount(t, s, 1, s.Objects()...)
	puts(t, s, kept, 0, 0)
	wantsObjects(t, s, kept)
}

// P18.5: Freed and Bytes: what the blocks had, not what was asked for; for each size that a block may have.
func TestBytesOfBlocks(t *testing.T) {
	c := config(6, 4)
	s, h := begin(t, c)
	kept := makes(t, s, 0, 1)
	sum := uint64(0)
	for r := 16; r <= int(regionBytes(c)); r *= 2 {
		for _, form := range [][2]int{{1, r - 8}, {r / 8, 0}, {1, max(0, r/2-7)}} {
			p := makes(t, s, form[0], form[1])
			puts(t, s, p, 0, p)
			drops(t, s, p)
			wantsSwept(t, s, 1, uint64(r))
			wantsLive(t, h, api.Block{P: kept, Size: 16})
		}
	}
	for r := 16; r <= int(regionBytes(c)); r *= 2 {
		p := makes(t, s, 1, max(0, r/2-7))
		puts(t, s, p, 0, p)
		drops(t, s, p)
		sum += uint64(r)
	}
	regions := h.Stats().H
	wantsSwept(t, s, 15, sum)
	wantsObjects(t, s, kept)
	if got := h.Stats().H; got != regions {
		t.Errorf("H is %d, not %d: a region went with what went", got, regions)
	}
}

// P18.5: the last word of an object leads as well as the first; its bytes lead nowhere and count nothing, though they hold an address.
func TestWhichWordsLead(t *testing.T) {
	for _, words := range []int{1, 2, 3, 64, 511, 1000} {
		for _, word := range []int{0, words / 2, words - 1} {
			s, h := begin(t, config(1, 3))
			p, leads, not := makes(t, s, words, 16), makes(t, s, 1, 0), makes(t, s, 1, 0)
			puts(t, s, leads, 0, leads)
			puts(t, s, not, 0, not)
			puts(t, s, p, word, leads)
			spare, _ := h.UsableSize(p)
			var address []byte
			for i := range 8 {
				address = append(address, byte(not>>(8*i)))
			}
			writes(t, s, p, 0, address)
			writes(t, s, p, 8, address)
			if end := uint64(8*words + 16); end+8 <= spare {
				h.Write(p+end, address)
			}
			wantsCount(t, s, 2, not)
			drops(t, s, leads, not)
			wantsSwept(t, s, 1, 16)
			wantsObjects(t, s, p, leads)
			wantsBytes(t, s, p, 0, append(address, address...))
		}
	}
}

// P18.8: rings as long as there are objects, kept at one place, and not kept.
func TestLongRings(t *testing.T) {
	const many = 1 << 18
	for _, back := range []bool{false, true} {
		s, h := begin(t, config(8, 4))
		list := makesMany(t, s, many, 2, 0)
		if back {
			slices.Reverse(list)
		}
		hangsChain(t, s, list...)
		puts(t, s, list[many-1], 0, list[0])
		narrow(1<<20, func() { wantsSwept(t, s, 0, 0) })
		drops(t, s, list[0])
		keeps(t, s, list[many/2])
		narrow(1<<20, func() { wantsSwept(t, s, 0, 0) })
		drops(t, s, list[many/2])
		narrow(1<<20, func() { wantsSwept(t, s, many, 16*many) })
		wantsLive(t, h)
	}
}

// P18.8: no more than the objects' number is needed, however many words lead to each: all to all.
func TestManyWays(t *testing.T) {
	const many = 1000
	s, h := begin(t, config(4, 64))
	list := makesMany(t, s, many, 512, 0)
	for i, p := range list {
		for word := range 512 {
			puts(t, s, p, word, list[(i+word)%many])
		}
	}
	wantsCount(t, s, 513, list...)
	drops(t, s, list[1:]...)
	var ahead, behind runtime.MemStats
	runtime.ReadMemStats(&ahead)
	wantsSwept(t, s, 0, 0)
	runtime.ReadMemStats(&behind)
	if used := behind.TotalAlloc - ahead.TotalAlloc; used > 1000*many {
		t.Errorf("a collection of %d objects has taken %d bytes", many, used)
	}
	drops(t, s, list[0])
	wantsSwept(t, s, many, many*4096)
	wantsLive(t, h)
}

// P18.5: those that are not reached are freed in the order in which they were made, whatever order the maps have: seen by the heap as a whole, and by where later blocks lie, which is elsewhere if they go in another order.
func TestCollectedInOrder(t *testing.T) {
	elsewhere := [4]int{}
	for seed := range 80 {
		row := numbers(seed)
		s, h, twins, list, words := drawnWeb(t, &row, 4)
		last := list[len(list)-1]
		puts(t, s, list[0], 0, last) // a ring: from the last one ways lead to all
		for _, twin := range twins {
			wantsError(t, "the twin's StoreWord", twin.StoreWord(list[0], last), api.OK)
		}
		words[list[0]] = nil
		counts := map[uint64]int{}
		for _, to := range words {
			for _, q := range to {
				counts[q]++
			}
		}
		drops(t, s, list...)
		wantsObjects(t, s, list...)
		back, rising := slices.Clone(list), slices.Sorted(slices.Values(list))
		slices.Reverse(back)
		for way, order := range [][]uint64{list, back, rising, (&going{words, counts}).inRows(last)} {
			if len(order) != len(list) {
				t.Fatalf("%d go, not %d", len(order), len(list))
			}
			for _, p := range order {
				wantsError(t, "the twin's Free", twins[way].Free(p), api.OK)
			}
		}
		if got := s.Collect(); got.Freed != len(list) {
			t.Fatalf("Collect: %+v, not %d", got, len(list))
		}
		if !reflect.DeepEqual(h.Image(), twins[0].Image()) {
			t.Fatalf("seed %d: the heap is another than if they go in the order of making", seed)
		}
		for range 30 {
			size := uint64(32) << oneOf(&row, 0, 0, 1, 6, 7, 8)
			got := told(h.Malloc(size, false))
			for way, twin := range twins {
				if told(twin.Malloc(size, false)) != got {
					elsewhere[way]++
				}
			}
		}
	}
	if elsewhere[0] != 0 || slices.Contains(elsewhere[1:], 0) {
		t.Errorf("later blocks lie elsewhere: %v", elsewhere)
	}
}

// P18.1, R5: two stores over one heap: what is kept by one keeps nothing of the other, its collection frees nothing of it, and no address leads from one to the other.
func TestTwoStores(t *testing.T) {
	s, h := begin(t, example())
	other := count.New(h)
	p, q := makes(t, s, 1, 0), makes(t, other, 1, 0)
	refusesPut(t, s, h, p, 0, q)
	refusesObject(t, s, h, q)
	refusesObject(t, other, h, p)
	puts(t, s, p, 0, p)
	puts(t, other, q, 0, q)
	wantsCount(t, s, 2, p)
	wantsCount(t, other, 2, q)
	drops(t, s, p)
	wantsSwept(t, other, 0, 0)
	wantsObjects(t, s, p)
	wantsObjects(t, other, q)
	wantsSwept(t, s, 1, 16)
	wantsObjects(t, other, q)
	wantsLive(t, h, api.Block{P: q, Size: 16})
	drops(t, other, q)
	wantsSwept(t, s, 0, 0)
	wantsObjects(t, other, q)
	puts(t, other, q, 0, 0)
	wantsLive(t, h)
}
