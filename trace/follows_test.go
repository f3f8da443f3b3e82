package trace_test

import (
	"fmt"
	"slices"
	"testing"

	"croft/api"
	"croft/malloc"
	"croft/trace"
)

// web is a store with the names that it was told, and what its objects were told to hold. What is reached is told by Get and the names alone.
type web struct {
	t     *testing.T
	s     *trace.Store
	h     *malloc.Heap
	words map[uint64]int
	held  map[uint64][]byte
	names map[string]uint64
}

// newWeb draws one: trees, rings and ways into nowhere, with some names.
func newWeb(t *testing.T, row *numbers) *web {
	t.Helper()
	s, h := begin(t, config(row.below(6), 2+row.below(5)))
	w := &web{t, s, h, map[uint64]int{}, map[uint64][]byte{}, map[string]uint64{}}
	for range 20 + row.below(60) {
		words, n := row.below(5), row.below(60)
		p, e := s.Make(words, n, false)
		if e != api.OK {
			continue
		}
		w.words[p] = words
		w.held[p] = row.bytes(n)
		writes(t, s, p, 0, w.held[p])
	}
	for range 2 * len(w.words) {
		if p := w.one(row); w.words[p] > 0 {
			puts(t, s, p, row.below(w.words[p]), w.one(row))
		}
	}
	for i := range row.below(4) {
		name := fmt.Sprint(i)
		w.names[name] = w.one(row)
		roots(t, s, name, w.names[name])
	}
	return w
}

// one draws an object.
func (w *web) one(row *numbers) uint64 { return oneOf(row, w.s.Objects()...) }

// from tells all to which ways lead from these.
func (w *web) from(list ...uint64) map[uint64]bool {
	all := map[uint64]bool{}
	for len(list) > 0 {
		p := list[0]
		list = list[1:]
		if p == 0 || all[p] {
			continue
		}
		all[p] = true
		for word := range w.words[p] {
			to, e := w.s.Get(p, word)
			wantsError(w.t, "Get", e, api.OK)
			list = append(list, to)
		}
	}
	return all
}

func (w *web) reached() map[uint64]bool {
	var list []uint64
	for _, p := range w.names {
		list = append(list, p)
	}
	return w.from(list...)
}

// wantsKept asks that the objects are just these of a list.
func (w *web) wantsKept(list []uint64, kept ...map[uint64]bool) {
	w.t.Helper()
	var want []uint64
	for _, p := range list {
		if slices.ContainsFunc(kept, func(some map[uint64]bool) bool { return some[p] }) {
			want = append(want, p)
		}
	}
	wantsObjects(w.t, w.s, want...)
}

// snapshot tells the blocks of objects, byte by byte.
func (w *web) snapshot() map[uint64]string {
	all := map[uint64]string{}
	for _, p := range w.s.Objects() {
		size, e := w.h.UsableSize(p)
		wantsError(w.t, "the heap's UsableSize", e, api.OK)
		b, e := w.h.Read(p, size)
		wantsError(w.t, "the heap's Read", e, api.OK)
		all[p] = string(b)
	}
	return all
}

// collect does a collection, and asks that each object that is left holds, where it was, what it held, and that what it frees was not reached.
func (w *web) collect() api.Swept {
	w.t.Helper()
	ahead, stats, reached, list := w.snapshot(), w.h.Stats(), w.reached(), w.s.Objects()
	told := w.s.Collect()
	behind := w.snapshot()
	for p, held := range behind {
		if ahead[p] != held {
			w.t.Fatalf("the object at %d has changed", p)
		}
	}
	for _, p := range list {
		if _, left := behind[p]; reached[p] && !left {
			w.t.Fatalf("the object at %d is reached, and went", p)
		}
	}
	now := w.h.Stats()
	if now.H != stats.H || stats.L-now.L != told.Bytes || stats.Blocks-now.Blocks != told.Freed || len(ahead)-len(behind) != told.Freed {
		w.t.Fatalf("Collect told %+v; the heap had %+v and has %+v", told, stats, now)
	}
	return told
}

// P17.9, T9: behind a collection the objects are just the reached ones, and none of these has moved or changed; a second one frees nothing.
func TestJustTheReached(t *testing.T) {
	freed, kept := 0, 0
	for seed := range 300 {
		row := numbers(seed)
		w := newWeb(t, &row)
		list, reached := w.s.Objects(), w.reached()
		told := w.collect()
		if len(told.Due) != 0 {
			t.Fatalf("Due: %v", told.Due)
		}
		w.wantsKept(list, reached)
		if told := w.collect(); told.Freed != 0 || told.Bytes != 0 || len(told.Due) != 0 {
			t.Fatalf("a second collection told %+v", told)
		}
		for p := range reached {
			wantsBytes(t, w.s, p, 0, w.held[p])
		}
		freed += told.Freed
		kept += len(reached)
	}
	if freed < 1000 || kept < 1000 {
		t.Errorf("only %d were freed, and %d kept", freed, kept)
	}
}

// P17.9: with final objects: the second one's Due is empty, it frees just what the first one's Due alone has kept, and behind it, when there are no names, no object is left.
func TestTwoCollections(t *testing.T) {
	alone := 0
	for seed := range 300 {
		row := numbers(seed)
		w := newWeb(t, &row)
		final := map[uint64]bool{}
		for range row.below(6) {
			p := w.one(&row)
			finals(t, w.s, p)
			final[p] = true
		}
		list, reached := w.s.Objects(), w.reached()
		var due []uint64
		for _, p := range list {
			if final[p] && !reached[p] {
				due = append(due, p)
			}
		}
		byDue := w.from(due...)
		first := w.collect()
		if !slices.Equal(first.Due, due) {
			t.Fatalf("Due: %v, not %v", first.Due, due)
		}
		w.wantsKept(list, reached, byDue)
		between := len(w.s.Objects())
		second := w.collect()
		if len(second.Due) != 0 || second.Freed != between-len(reached) {
			t.Fatalf("the second collection told %+v", second)
		}
		w.wantsKept(list, reached)
		if len(w.names) == 0 {
			wantsObjects(t, w.s)
		}
		alone += second.Freed
	}
	if alone < 100 {
		t.Errorf("only %d were kept by Due alone", alone)
	}
}

// P17.9: no names any more: behind two collections no object is left, and no block.
func TestNothingLeft(t *testing.T) {
	for seed := range 100 {
		row := numbers(seed)
		w := newWeb(t, &row)
		for range 5 {
			finals(t, w.s, w.one(&row))
		}
		w.collect()
		for name := range w.names {
			unroots(t, w.s, name)
		}
		clear(w.names)
		w.collect()
		w.collect()
		wantsObjects(t, w.s)
		wantsLive(t, w.h)
		if got := w.h.Stats(); int(got.H/4096) != got.FreePages {
			t.Fatalf("Stats: %+v", got)
		}
	}
}

// P17.9: a name more keeps just what it leads to; a word less, what it led to alone goes.
func TestOneMoreOneLess(t *testing.T) {
	for seed := range 100 {
		row := numbers(seed)
		w := newWeb(t, &row)
		w.names["more"] = w.one(&row)
		roots(t, w.s, "more", w.names["more"])
		w.collect()
		for range 10 {
			p := w.one(&row)
			if w.words[p] > 0 {
				puts(t, w.s, p, row.below(w.words[p]), 0)
			}
			list, reached := w.s.Objects(), w.reached()
			w.collect()
			w.wantsKept(list, reached)
		}
	}
}
