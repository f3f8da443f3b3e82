package trace_test

import (
	"bytes"
	"reflect"
	"runtime"
	"runtime/debug"
	"slices"
	"testing"

	"croft/api"
	"croft/malloc"
	"croft/trace"
)

// P17.7: of a store without objects, again and again; what others have on the heap stays.
func TestNothingToCollect(t *testing.T) {
	s, h := begin(t, example())
	for range 3 {
		unchanged(t, "Collect", s, h, func() {
			wantsSwept(t, s, 0, 0)
			wantsSwept(t, s, 0, 0)
		})
		h.Malloc(16, false)
	}
	makes(t, s, 0, 0)
	wantsSwept(t, s, 1, 16)
	wantsSwept(t, s, 0, 0)
	wantsLive(t, h, api.Block{P: 65536, Size: 16}, api.Block{P: 65552, Size: 16}, api.Block{P: 65568, Size: 16})
}

// P17.7: without names all go, however they lead to one another; no region goes with them.
func TestNoNames(t *testing.T) {
	s, h := begin(t, config(2, 3))
	list := makesMany(t, s, 30, 3, 0)
	row := numbers(7)
	for range 100 {
		puts(t, s, oneOf(&row, list...), row.below(3), oneOf(&row, list...))
	}
	wantsSwept(t, s, 30, 30*32)
	wantsObjects(t, s)
	wantsLive(t, h)
	if got := h.Stats(); got != (api.Stats{H: 16384, FreePages: 4}) {
		t.Errorf("Stats: %+v", got)
	}
	refusesObject(t, s, h, list...)
}

// P17.7: Freed and Bytes: what the blocks had, not what was asked for; for each size that a block may have.
func TestBytesOfBlocks(t *testing.T) {
	c := config(6, 4)
	s, h := begin(t, c)
	kept := makes(t, s, 0, 1)
	roots(t, s, "kept", kept)
	for r := 16; r <= int(regionBytes(c)); r *= 2 {
		for _, form := range [][2]int{{0, r}, {r / 8, 0}, {0, r/2 + 1}, {1, r/2 - 7}} {
			makes(t, s, form[0], form[1])
			wantsSwept(t, s, 1, uint64(r))
			wantsLive(t, h, api.Block{P: kept, Size: 16})
		}
	}
	sum := uint64(0)
	for r := 16; r <= int(regionBytes(c)); r *= 2 {
		makes(t, s, 0, r/2+1)
		sum += uint64(r)
	}
	wantsSwept(t, s, 15, sum)
	wantsObjects(t, s, kept)
}

// P17.7: rings that nothing leads to go, those to which a name leads at any place stay whole.
func TestRings(t *testing.T) {
	for count := 1; count <= 8; count++ {
		for named := range count + 1 {
			s, _ := begin(t, example())
			ring := makesMany(t, s, count, 2, 0)
			for i, p := range ring {
				puts(t, s, p, i%2, ring[(i+1)%count])
			}
			other := makesMany(t, s, 2, 1, 0)
			chains(t, s, other[0], other[1], other[0])
			puts(t, s, other[0], 0, ring[0]) // it leads there, not back
			if named == count {
				wantsSwept(t, s, count+2, uint64(16*count+32))
				continue
			}
			roots(t, s, "here", ring[named])
			wantsSwept(t, s, 2, 32)
			wantsObjects(t, s, ring...)
			unroots(t, s, "here")
			wantsSwept(t, s, count, uint64(16*count))
		}
	}
}

// P17.7: one that refers to itself goes like any other.
func TestSelf(t *testing.T) {
	s, _ := begin(t, example())
	p, q := makes(t, s, 2, 0), makes(t, s, 2, 0)
	for word := range 2 {
		puts(t, s, p, word, p)
		puts(t, s, q, word, q)
	}
	roots(t, s, "p", p)
	wantsSwept(t, s, 1, 16)
	wantsWord(t, s, p, 1, p)
	unroots(t, s, "p")
	wantsSwept(t, s, 1, 16)
}

// P17.7: the last word of an object leads as well as the first; its bytes lead nowhere, though they hold an address.
func TestWhichWordsLead(t *testing.T) {
	for _, words := range []int{1, 2, 3, 64, 511, 1000} {
		for _, word := range []int{0, words / 2, words - 1} {
			s, h := begin(t, config(1, 3))
			p, leads := makes(t, s, words, 16), makes(t, s, 0, 0)
			puts(t, s, p, word, leads)
			not := makes(t, s, 0, 0)
			roots(t, s, "p", p)
			spare, _ := h.UsableSize(p)
			var address []byte
			for i := range 8 {
				address = append(address, byte(not>>(8*i)))
			}
			writes(t, s, p, 0, address)
			writes(t, s, p, 8, address)
			if end := uint64(8*words + 16); end+8 <= spare {
				h.Write(p+end, address)
			}
			wantsSwept(t, s, 1, 16)
			wantsObjects(t, s, p, leads)
			wantsBytes(t, s, p, 0, append(address, address...))
		}
	}
}

// P17.7: a word that was put anew, or to 0, leads no more to what it led to.
func TestWordPutAnew(t *testing.T) {
	s, _ := begin(t, example())
	list := makesMany(t, s, 3, 1, 0)
	roots(t, s, "a", list[0])
	puts(t, s, list[0], 0, list[1])
	puts(t, s, list[0], 0, list[2])
	wantsSwept(t, s, 1, 16)
	wantsObjects(t, s, list[0], list[2])
	puts(t, s, list[0], 0, 0)
	wantsSwept(t, s, 1, 16)
	wantsObjects(t, s, list[0])
}

// P17.9: between two collections no object goes, whatever leads to it or does not.
func TestBetweenCollections(t *testing.T) {
	s, h := begin(t, config(0, 1))
	list := makesMany(t, s, 256, 2, 0)
	roots(t, s, "a", list[0])
	unroots(t, s, "a")
	chains(t, s, list...)
	for _, p := range list {
		puts(t, s, p, 0, 0)
	}
	refusesMake(t, s, h, 0, 0, false, api.ENOMEM)
	wantsObjects(t, s, list...)
	for _, p := range list {
		writes(t, s, p, 0, nil)
	}
	if got := h.Stats().Blocks; got != 256 {
		t.Errorf("%d blocks", got)
	}
	wantsSwept(t, s, 256, 4096)
}

// narrow lets no goroutine have a stack of more than some bytes while something is done: who goes along a way by calls within calls ends there.
func narrow(most int, do func()) {
	defer debug.SetMaxStack(debug.SetMaxStack(most))
	do()
}

// P17.10: ways as long as there are objects, and there are as many as a heap can have; made forwards and backwards.
func TestLongWays(t *testing.T) {
	const count = 1 << 18
	for _, back := range []bool{false, true} {
		s, h := begin(t, config(8, 4))
		list := makesMany(t, s, count, 2, 0)
		refusesMake(t, s, h, 0, 0, false, api.ENOMEM)
		if back {
			slices.Reverse(list)
		}
		chains(t, s, list...)
		roots(t, s, "first", list[0])
		weakens(t, s, list[count-1], 1)
		narrow(1<<20, func() { wantsSwept(t, s, 0, 0) })
		wantsWeak(t, s, list[count-1])
		puts(t, s, list[count/2], 0, 0)
		finals(t, s, list[count-1])
		narrow(1<<20, func() { wantsSwept(t, s, count/2-2, 16*(count/2-2), list[count-1]) })
		puts(t, s, list[count-1], 0, list[0])
		unroots(t, s, "first")
		finals(t, s, list[count-1])
		narrow(1<<20, func() { wantsSwept(t, s, 0, 0, list[count-1]) })
		narrow(1<<20, func() { wantsSwept(t, s, count/2+2, 16*(count/2+2)) })
		wantsLive(t, h)
	}
}

// P17.10: no more than the objects' number is needed, however many words lead to each: all to all.
func TestManyWays(t *testing.T) {
	const count = 1000
	s, _ := begin(t, config(4, 64))
	list := makesMany(t, s, count, 512, 0)
	for i, p := range list {
		for word := range 512 {
			puts(t, s, p, word, list[(i+word+1)%count])
		}
	}
	roots(t, s, "one", list[count/2])
	var ahead, behind runtime.MemStats
	runtime.ReadMemStats(&ahead)
	wantsSwept(t, s, 0, 0)
	runtime.ReadMemStats(&behind)
	if used := behind.TotalAlloc - ahead.TotalAlloc; used > 1000*count {
		t.Errorf("a collection of %d objects has taken %d bytes", count, used)
	}
	unroots(t, s, "one")
	wantsSwept(t, s, count, count*4096)
}

// webOf is a store whose objects lie in no order among blocks of others, some of them named, and three heaps of the same requests, on which nothing was freed yet.
func webOf(t *testing.T, row *numbers) (s *trace.Store, h *malloc.Heap, twins []*malloc.Heap, unnamed []uint64) {
	t.Helper()
	c := config(4, 8)
	s, h = begin(t, c)
	for range 3 {
		twins = append(twins, newHeap(t, c))
	}
	for i := range 10 + row.below(50) {
		size := 16 << oneOf(row, 0, 1, 1, 1, 7, 8, 8, 9)
		var p uint64
		if i%4 == 3 {
			p, _ = h.Calloc(1, uint64(size), false)
		} else {
			p = makes(t, s, 0, size)
			unnamed = append(unnamed, p)
		}
		for _, twin := range twins {
			wants(t, "the twin's", told(twin.Calloc(1, uint64(size), false)), answer{p, api.OK})
		}
	}
	roots(t, s, "kept", unnamed[4])
	return s, h, twins, slices.Delete(unnamed, 4, 5)
}

// R5, P17.7: the objects are freed in one order, whatever order the maps have: that of their making. It is seen by the heap as a whole, and by where later blocks lie, which is elsewhere if they go in another order.
func TestFreedInOrder(t *testing.T) {
	elsewhere := [3]int{}
	for seed := range 60 {
		row := numbers(seed)
		s, h, twins, list := webOf(t, &row)
		last, rising := slices.Clone(list), slices.Sorted(slices.Values(list))
		slices.Reverse(last)
		for way, order := range [][]uint64{list, last, rising} {
			for _, p := range order {
				wantsError(t, "the twin's Free", twins[way].Free(p), api.OK)
			}
		}
		if got := s.Collect(); got.Freed != len(list) {
			t.Fatalf("Collect: %+v, not %d", got, len(list))
		}
		if !reflect.DeepEqual(h.Image(), twins[0].Image()) {
			t.Fatalf("seed %d: the heap is another than if they go in the order of making", seed)
		}
		for range 30 {
			size := uint64(16) << oneOf(&row, 0, 1, 1, 7, 8, 9)
			got := told(h.Malloc(size, false))
			for way, twin := range twins {
				if told(twin.Malloc(size, false)) != got {
					elsewhere[way]++
				}
			}
		}
	}
	if elsewhere[0] != 0 || elsewhere[1] == 0 || elsewhere[2] == 0 {
		t.Errorf("later blocks lie elsewhere: %v", elsewhere)
	}
}

// R6: a collection touches no block of others, nor what they hold, though they lie between objects that go.
func TestOthersStay(t *testing.T) {
	s, h := begin(t, config(3, 2))
	row := numbers(3)
	theirs := map[uint64][]byte{}
	for range 60 {
		words, n := row.below(30), 16<<row.below(5)
		makes(t, s, words, 0)
		p, e := h.Malloc(uint64(n), false)
		wantsError(t, "the heap's Malloc", e, api.OK)
		theirs[p] = row.bytes(n)
		h.Write(p, theirs[p])
	}
	if got := s.Collect(); got.Freed != 60 {
		t.Fatalf("Collect: %+v", got)
	}
	if got := h.Live(); len(got) != len(theirs) {
		t.Fatalf("%d blocks are live, not %d", len(got), len(theirs))
	}
	for p, want := range theirs {
		if got, e := h.Read(p, uint64(len(want))); e != api.OK || !bytes.Equal(got, want) {
			t.Fatalf("the block at %d: %v, and it holds something else", p, e)
		}
	}
}

// P17.7: two stores over one heap: the names of one keep nothing of the other, and its collection frees nothing of it; nor does an address lead from one to the other.
func TestTwoStores(t *testing.T) {
	s, h := begin(t, example())
	other := trace.New(h)
	p, q := makes(t, s, 1, 0), makes(t, other, 1, 0)
	refusesPut(t, s, h, p, 0, q)
	roots(t, s, "a", p)
	wantsError(t, "Unroot", other.Unroot("a"), api.EINVAL)
	wantsError(t, "Root", other.Root("a", p), api.EINVAL)
	roots(t, other, "b", q)
	wantsSwept(t, s, 0, 0)
	unroots(t, other, "b")
	wantsSwept(t, s, 0, 0)
	wantsObjects(t, other, q)
	wantsSwept(t, other, 1, 16)
	wantsObjects(t, s, p)
	wantsLive(t, h, api.Block{P: p, Size: 16})
	unroots(t, s, "a")
	wantsSwept(t, other, 0, 0)
	wantsObjects(t, s, p)
	wantsSwept(t, s, 1, 16)
	wantsLive(t, h)
}
