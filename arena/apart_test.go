package arena_test

import (
	"reflect"
	"slices"
	"sync"
	"testing"

	"croft/api"
	"croft/arena"
	"croft/malloc"
)

// R4: what Chunks tells is new memory each time, spare room too: what is done to it is not seen.
func TestListsApart(t *testing.T) {
	h := newHeap(t, example())
	a := newArena(t, h, 64)
	for count := range 20 {
		one, other := a.Chunks(), a.Chunks()
		if len(one) != count {
			t.Fatalf("%d chunks, not %d", len(one), count)
		}
		wantsApart(t, "Chunks", spanOf(one), spanOf(other))
		unchanged(t, "what is done to a list", a, h, func() {
			clear(one[:cap(one)])
			one = append(one[:0], api.Block{P: 1, Size: 2}, api.Block{P: 3, Size: 4})
		})
		takes(t, a, 64, 1)
		if !slices.Equal(other, a.Chunks()[:count]) {
			t.Fatal("a list that was told has changed")
		}
	}
	ahead := a.Chunks()
	told := slices.Clone(ahead)
	a.Reset()
	takes(t, a, 8192, 1)
	if !slices.Equal(ahead, told) {
		t.Fatal("a list that was told has changed")
	}
}

// asked is a call that was drawn, to be done on several arenas.
type asked struct {
	kind, mark int
	n, align   uint64
	deny       bool
}

func draw(row *numbers, c api.Config) asked {
	return asked{row.below(20), row.below(40), row.size(c), row.align(c), row.below(3) == 0}
}

// does makes the call, and tells all that can be seen behind it.
func does(a *arena.Arena, x asked) []any {
	var first []any
	switch {
	case x.kind < 12:
		p, e := a.Alloc(x.n, x.align, x.deny)
		first = []any{p, e}
	case x.kind < 17:
		first = []any{a.Mark()}
	case x.kind < 19:
		first = []any{a.Release(x.mark)}
	default:
		a.Reset()
	}
	return append(first, a.Used(), a.Held(), a.Chunks())
}

// R5: the same is asked of two arenas over two heaps, with other things asked of a third between: they answer the same.
func TestSameAnswers(t *testing.T) {
	for seed := range 80 {
		row, strange := numbers(seed), numbers(seed+500)
		c := config(seed%5, 3)
		chunk := drawnChunk(&row, c)
		hs := []*malloc.Heap{newHeap(t, c), newHeap(t, c), newHeap(t, c)}
		one, twin, other := newArena(t, hs[0], chunk), newArena(t, hs[1], chunk), newArena(t, hs[2], chunk)
		for range 300 {
			x := draw(&row, c)
			got := does(one, x)
			does(other, draw(&strange, c))
			if want := does(twin, x); !reflect.DeepEqual(got, want) {
				t.Fatalf("%+v: %v, and %v", x, got, want)
			}
		}
		if !reflect.DeepEqual(hs[0].Image(), hs[1].Image()) {
			t.Fatal("two heaps differ behind the same calls")
		}
	}
}

// R5: two arenas over one heap have nothing else in common: each has its own chunks, marks and bytes.
func TestTwoArenas(t *testing.T) {
	h := newHeap(t, example())
	one, other := newArena(t, h, 64), newArena(t, h, 64)
	wantsMark(t, one, 0)
	wantsMark(t, one, 1)
	refusesRelease(t, other, h, 0, 1)
	p := takes(t, one, 10, 1)
	q := takes(t, other, 20, 1)
	wantsMark(t, other, 0)
	takesAt(t, one, 10, 1, p+10)
	takesAt(t, other, 10, 1, q+20)
	wantsChunks(t, one, api.Block{P: p, Size: 64})
	wantsChunks(t, other, api.Block{P: q, Size: 64})
	unchanged(t, "Release of the other's", one, h, func() { releases(t, other, 0) })
	wantsUsed(t, other, 20)
	releases(t, one, 1)
	wantsChunks(t, one)
	wantsChunks(t, other, api.Block{P: q, Size: 64})
	wantsLive(t, h, api.Block{P: q, Size: 64})
	takesAt(t, other, 44, 1, q+20)
	one.Reset()
	wantsUsed(t, other, 64)
	wantsMark(t, one, 2)
	wantsMark(t, other, 1)
}

// R6: an arena's calls don't touch what others have, whatever it is asked, and it writes nowhere: neither into its own pieces nor past them.
func TestOthersAreNotTouched(t *testing.T) {
	for seed := range 40 {
		row := numbers(seed)
		c := config(3, 3)
		h := newHeap(t, c)
		a := newArena(t, h, drawnChunk(&row, c))
		held := map[uint64][]byte{}
		for range 300 {
			does(a, draw(&row, c))
			if size := row.size(c); row.below(4) == 0 {
				if p, e := h.Malloc(size, false); e == api.OK {
					held[p] = row.bytes(int(sizeFor(c, size, 1)))
					wantsError(t, "the heap's Write", h.Write(p, held[p]), api.OK)
				}
			}
			for p, want := range held {
				wantsBytes(t, h, p, want)
			}
		}
		a.Reset()
		if got := h.Live(); len(got) != len(held) {
			t.Fatalf("%d blocks are live, not %d", len(got), len(held))
		}
	}
}

// past does something to the heap that only the arena may do: it frees a chunk, or changes its size, or writes into it.
func past(h *malloc.Heap, p uint64, x asked) {
	switch x.mark % 5 {
	case 0:
		h.Free(p)
	case 1:
		h.Realloc(p, x.n, x.deny)
	case 2:
		h.Write(p, make([]byte, x.n%40))
	case 3:
		h.Trim()
	default:
		h.Malloc(x.n, x.deny)
	}
}

// R1, R5, R6: who frees chunks past the arena is promised that each call ends and none panics, and that the same calls answer the same.
func TestPastTheArena(t *testing.T) {
	for seed := range 150 {
		row := numbers(seed)
		c := config(seed%4, 2)
		chunk := drawnChunk(&row, c)
		h, twin := newHeap(t, c), newHeap(t, c)
		a, b := newArena(t, h, chunk), newArena(t, twin, chunk)
		for range 300 {
			if list := a.Chunks(); len(list) > 0 && row.below(2) == 0 {
				x, p := draw(&row, c), oneOf(&row, list...).P
				past(h, p, x)
				past(twin, p, x)
			}
			x := draw(&row, c)
			if got, want := does(a, x), does(b, x); !reflect.DeepEqual(got, want) {
				t.Fatalf("%+v: %v, and %v", x, got, want)
			}
			if !reflect.DeepEqual(h.Live(), twin.Live()) {
				t.Fatal("two heaps differ behind the same calls")
			}
		}
	}
}

// R1, R6: every chunk was freed, its region let go: the arena goes on, to the last call.
func TestChunksFreed(t *testing.T) {
	h := newHeap(t, example())
	a := newArena(t, h, 4096)
	wantsMark(t, a, 0)
	list := takesMany(t, a, 4096, 4)
	wantsMark(t, a, 1)
	for _, p := range list {
		wantsError(t, "the heap's Free", h.Free(p), api.OK)
	}
	h.Trim()
	for _, n := range edges() {
		for _, align := range edges() {
			a.Alloc(n, align, true)
			a.Alloc(n, align, false)
		}
	}
	a.Mark()
	for mark := 5; mark >= -1; mark-- {
		a.Release(mark)
	}
	a.Reset()
	a.Reset()
	wantsChunks(t, a)
	wantsUsed(t, a, 0)
	wantsMark(t, a, 3)
	takes(t, a, 8192, 1)
}

// P15.5: arenas of several goroutines over one heap: each is asked by one alone, and what was written into its pieces is there.
func TestSideBySide(t *testing.T) {
	h := newHeap(t, config(6, 16))
	wrong := make([]int, 8)
	var all sync.WaitGroup
	for i := range wrong {
		a := newArena(t, h, 500)
		all.Go(func() {
			row := numbers(i)
			for range 60 {
				mark := a.Mark()
				var list []piece
				for range 12 {
					n := uint64(1 + row.below(300))
					p, e := a.Alloc(n, 1<<row.below(6), false)
					one := piece{p, n, row.bytes(int(n))}
					if e != api.OK || h.Write(p, one.held) != api.OK {
						wrong[i]++
					}
					list = append(list, one)
				}
				for _, one := range list {
					if got, e := h.Read(one.p, one.n); e != api.OK || !slices.Equal(got, one.held) {
						wrong[i]++
					}
				}
				if row.below(3) > 0 && a.Release(mark) != api.OK {
					wrong[i]++
				}
			}
			a.Reset()
		})
	}
	all.Wait()
	if slices.Max(wrong) != 0 {
		t.Errorf("what went wrong: %v", wrong)
	}
	wantsLive(t, h)
}
