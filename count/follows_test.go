package count_test

import (
	"cmp"
	"slices"
	"strconv"
	"testing"

	"croft/api"
	"croft/count"
	"croft/malloc"
	"croft/trace"
)

// web is a store, how often each of its objects was kept by hand, and what it was told to hold. What is reached is told by Get and by that alone.
type web struct {
	t       *testing.T
	s       *count.Store
	h       *malloc.Heap
	words   map[uint64]int
	held    map[uint64][]byte
	kept    map[uint64]int
	strange []api.Block
}

func newWeb(t *testing.T, row *numbers) *web {
	t.Helper()
	s, h := begin(t, config(row.below(4), 2+row.below(5)))
	return &web{t, s, h, map[uint64]int{}, map[uint64][]byte{}, map[uint64]int{}, nil}
}

// makes makes an object of a form that is drawn, and writes into it.
func (w *web) makes(row *numbers) {
	w.t.Helper()
	words, n := row.below(5), row.below(60)
	p, e := w.s.Make(words, n, row.below(2) == 0)
	if e != api.OK {
		return
	}
	w.words[p], w.kept[p], w.held[p] = words, 1, row.bytes(n)
	writes(w.t, w.s, p, 0, w.held[p])
}

// others has a block more that is not the store's.
func (w *web) others(row *numbers) {
	size := uint64(16) << row.below(6)
	if p, e := w.h.Malloc(size, false); e == api.OK {
		w.strange = append(w.strange, api.Block{P: p, Size: size})
	}
}

// one draws an object, or 0 where there is none.
func (w *web) one(row *numbers) uint64 { return oneOf(row, append(w.s.Objects(), 0)...) }

// from tells all to which ways lead from these.
func (w *web) from(list ...uint64) map[uint64]bool {
	w.t.Helper()
	all := map[uint64]bool{}
	for len(list) > 0 {
		p := list[0]
		list = list[1:]
		if p == 0 || all[p] {
			continue
		}
		all[p] = true
		for word := range w.words[p] {
			to, e := w.s.Get(p, word)
			wantsError(w.t, "Get of a reached one", e, api.OK)
			list = append(list, to)
		}
	}
	return all
}

func (w *web) reached() map[uint64]bool {
	w.t.Helper()
	var list []uint64
	for p, times := range w.kept {
		if times > 0 {
			list = append(list, p)
		}
	}
	return w.from(list...)
}

// puts lets a word refer to an object, or to nothing; if no ring may be, only where there is no way back.
func (w *web) puts(row *numbers, ring bool) {
	w.t.Helper()
	p, to := w.one(row), w.one(row)
	if w.words[p] == 0 || !ring && w.from(to)[p] {
		return
	}
	puts(w.t, w.s, p, row.below(w.words[p]), to)
}

func (w *web) keeps(p uint64) {
	w.t.Helper()
	if p != 0 {
		keeps(w.t, w.s, p)
		w.kept[p]++
	}
}

func (w *web) drops(p uint64) {
	w.t.Helper()
	if w.kept[p] > 0 {
		drops(w.t, w.s, p)
		w.kept[p]--
	}
}

// call does one that is drawn, but no collection.
func (w *web) call(row *numbers, ring bool) {
	w.t.Helper()
	switch kind := row.below(100); {
	case kind < 25:
		w.makes(row)
	case kind < 60:
		w.puts(row, ring)
	case kind < 64:
		w.keeps(w.one(row))
	case kind < 95:
		w.drops(w.one(row))
	default:
		w.others(row)
	}
}

// sound is what P18.7 says at all times: the reached ones are there, each where it was, with its bytes; no count is 0; the heap's live blocks are the objects' and those of others. It tells the objects, and the reached ones in the same order.
func (w *web) sound() (objects, reached []uint64) {
	w.t.Helper()
	is := w.reached()
	live := slices.Clone(w.strange)
	objects = w.s.Objects()
	for _, p := range objects {
		if n, e := w.s.Count(p); n < 1 || e != api.OK {
			w.t.Fatalf("Count(%d): %d, %v", p, n, e)
		}
		if is[p] {
			reached = append(reached, p)
		}
		size, _ := w.h.UsableSize(p)
		live = append(live, api.Block{P: p, Size: size})
		wantsBytes(w.t, w.s, p, 0, w.held[p])
	}
	if len(reached) != len(is) {
		w.t.Fatalf("%d are reached, of these %d are objects", len(is), len(reached))
	}
	slices.SortFunc(live, func(one, other api.Block) int { return cmp.Compare(one.P, other.P) })
	wantsLive(w.t, w.h, live...)
	return objects, reached
}

// allWords tells the words of some objects.
func (w *web) allWords(list []uint64) map[uint64][]uint64 {
	w.t.Helper()
	all := map[uint64][]uint64{}
	for _, p := range list {
		for word := range w.words[p] {
			to, e := w.s.Get(p, word)
			wantsError(w.t, "Get", e, api.OK)
			all[p] = append(all[p], to)
		}
	}
	return all
}

// collects does a collection, and asks what P18.7 says behind one: just the reached ones are left, each with its words, and a second one frees none. It tells how many went.
func (w *web) collects() int {
	w.t.Helper()
	objects, reached := w.sound()
	words, stats := w.allWords(reached), w.h.Stats()
	told := w.s.Collect()
	wantsObjects(w.t, w.s, reached...)
	w.sound()
	for p, list := range words {
		for word, to := range list {
			wantsWord(w.t, w.s, p, word, to)
		}
	}
	now := w.h.Stats()
	if told.Freed != len(objects)-len(reached) || stats.L-now.L != told.Bytes || now.H != stats.H || len(told.Due) != 0 {
		w.t.Fatalf("Collect told %+v; the heap had %+v and has %+v", told, stats, now)
	}
	wantsSwept(w.t, w.s, 0, 0)
	wantsObjects(w.t, w.s, reached...)
	return told.Freed
}

// P18.7, T9: webs with rings: at all times, and behind each collection.
func TestReachedStay(t *testing.T) {
	freed, left := 0, 0
	for seed := range 100 {
		row := numbers(seed)
		w := newWeb(t, &row)
		for n := range 200 {
			w.call(&row, true)
			objects, reached := w.sound()
			left += len(objects) - len(reached)
			if n%40 == 39 {
				freed += w.collects()
			}
		}
	}
	if freed < 100 || left < 1000 {
		t.Errorf("only %d went by a collection, and %d were there without being reached", freed, left)
	}
}

// P18.7: where no way leads from an object back to itself the objects are just the reached ones at all times, and a collection frees none; so it is again behind a collection, when the rings are gone.
func TestWithoutRings(t *testing.T) {
	went := 0
	for seed := range 100 {
		row := numbers(seed)
		w := newWeb(t, &row)
		if seed%2 == 0 { // rings at first, all of which are let go
			for range 60 {
				w.call(&row, true)
			}
			for _, p := range w.s.Objects() {
				for w.kept[p] > 0 {
					w.drops(p)
				}
			}
			w.collects()
			wantsObjects(t, w.s)
		}
		for range 250 {
			ahead := len(w.s.Objects())
			w.call(&row, false)
			objects, reached := w.sound()
			if !slices.Equal(objects, reached) {
				t.Fatalf("the objects are %v, the reached ones %v", objects, reached)
			}
			went += max(0, ahead-len(objects))
		}
		wantsSwept(t, w.s, 0, 0)
	}
	if went < 1000 {
		t.Errorf("only %d went", went)
	}
}

// P18.7: nothing is kept by hand any more: behind a collection no object is left, and no block but those of others.
func TestNothingLeft(t *testing.T) {
	for seed := range 100 {
		row := numbers(seed)
		w := newWeb(t, &row)
		for range 150 {
			w.call(&row, true)
		}
		for _, p := range w.s.Objects() {
			for w.kept[p] > 0 {
				w.drops(p)
			}
		}
		w.collects()
		wantsObjects(t, w.s)
		if got := w.h.Stats().Blocks; got != len(w.strange) {
			t.Fatalf("%d blocks are live, %d of them others'", got, len(w.strange))
		}
	}
}

// T9: behind Collect, trace and count keep the same: of the same web, with names for what is kept by hand, in each a heap of its own.
func TestLikeTrace(t *testing.T) {
	for seed := range 150 {
		row := numbers(seed)
		c := config(seed%4, 4)
		s, _ := begin(t, c)
		other := trace.New(newHeap(t, c))
		many, words := 10+row.below(60), 1+row.below(3)
		list := makesMany(t, s, many, words, 0)
		for i, p := range list {
			got, e := other.Make(words, 0, false)
			wants(t, "trace's Make", answer{got, e}, answer{p, api.OK})
			if row.below(8) == 0 {
				keeps(t, s, p)
				wantsError(t, "trace's Root", other.Root(strconv.Itoa(i), p), api.OK)
			}
		}
		for range 2 * many {
			p, word, to := oneOf(&row, list...), row.below(words), oneOf(&row, append(list, 0)...)
			puts(t, s, p, word, to)
			wantsError(t, "trace's Put", other.Put(p, word, to), api.OK)
		}
		drops(t, s, list...)
		s.Collect()
		other.Collect()
		wantsObjects(t, s, other.Objects()...)
		for _, p := range s.Objects() {
			for word := range words {
				want, _ := other.Get(p, word)
				wantsWord(t, s, p, word, want)
			}
		}
	}
}
