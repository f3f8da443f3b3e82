package cache_test

import (
	"slices"
	"testing"

	"croft/api"
	"croft/malloc"
)

// wantsNothingKept asks that no worker has anything at hand.
func (b *both) wantsNothingKept() {
	b.t.Helper()
	for worker := range b.w.hands {
		wantsKept(b.t, b.s, worker)
	}
	if got := b.s.Drain(); got != 0 {
		b.t.Fatalf("Drain once more: %d", got)
	}
}

// spread fills the hands of all workers.
func (b *both) spread(row *numbers, count int) int {
	b.t.Helper()
	var list []uint64
	for range count {
		a := b.malloc(row.below(len(b.w.hands)), smallSizes()[row.below(8)], false)
		wantsError(b.t, "Malloc", a.e, api.OK)
		list = append(list, a.p)
	}
	for i := range list {
		j := i + row.below(len(list)-i)
		list[i], list[j] = list[j], list[i]
	}
	for _, p := range list[:len(list)*3/4] {
		b.free(row.below(len(b.w.hands)), p)
	}
	sum := 0
	for worker := range b.w.hands {
		for _, n := range b.w.kept(worker) {
			sum += n
		}
	}
	return sum
}

// P13.7: Drain tells how many there were; what is handed out stays as it is; behind it nothing is at hand.
func TestDrain(t *testing.T) {
	for seed := range 40 {
		row := numbers(seed)
		b := newBoth(t, config(8, 2), 1+seed%16, 1+seed%9)
		want := b.spread(&row, 200)
		ahead := stateOf(b.s)
		if got := b.drain(); got != want {
			t.Fatalf("Drain: %d, not %d", got, want)
		}
		if !sameOut(stateOf(b.s), ahead) {
			t.Fatal("Drain has changed what is handed out")
		}
		b.wantsNothingKept()
	}
}

// P13.7: Drain's order is seen by where later blocks lie: the workers from the first to the last, their classes from the least up, the last that came first.
func TestDrainOrder(t *testing.T) {
	for seed := range 60 {
		row := numbers(seed)
		b := newBoth(t, config(5, 2), 2+seed%4, 8)
		b.spread(&row, 60)
		b.drain()
		for range 150 {
			b.malloc(row.below(len(b.w.hands)), smallSizes()[row.below(8)], false)
		}
		b.check()
	}
}

// P13.7: the same by hand. Of one page's cells the heap hands out first what came back last.
func TestDrainOrderByHand(t *testing.T) {
	s := newShared(t, example(), 3, 4)
	list := takes(t, s, 0, 16, 9) // the last one stays: so the page does too
	frees(t, s, 2, list[0], list[1])
	frees(t, s, 0, list[2], list[3], list[4])
	frees(t, s, 1, list[5], list[6])
	frees(t, s, 2, list[7])
	if got := s.Drain(); got != 8 {
		t.Fatalf("Drain: %d", got)
	}
	// They went back as 4 3 2 (worker 0), 6 5 (1), 7 1 0 (2).
	for _, i := range []int{0, 1, 7, 5, 6, 2, 3, 4} {
		wants(t, i, told(s.Malloc(1, 16, true)), answer{list[i], api.OK})
	}
}

// P13.7: the classes from the least up: of two pages that come back whole the heap hands out first what its free list says; the same frees on a heap tell it.
func TestDrainOrderOfClasses(t *testing.T) {
	s := newShared(t, config(2, 1), 1, 1)
	h, _ := malloc.New(config(2, 1))
	var list []uint64
	for _, size := range []uint64{512, 64, 16, 2048} { // a page each
		list = append(list, takes(t, s, 0, size, 1)...)
		h.Malloc(size, false)
	}
	frees(t, s, 0, list[3], list[1], list[0]) // 2048, 64, 512
	if got := s.Drain(); got != 3 {
		t.Fatalf("Drain: %d", got)
	}
	for _, i := range []int{1, 0, 3} {
		h.Free(list[i])
	}
	for range 3 {
		p, e := h.Malloc(4096, true)
		wants(t, "a page", told(s.Malloc(0, 4096, true)), answer{p, e})
	}
	frees(t, s, 0, list[2])
	h.Free(list[2])
	wantsKept(t, s, 0, 1)
}

// P13.7: Trim gives all back, and lets go of the regions at the top that meet nothing that is handed out.
func TestTrim(t *testing.T) {
	s := newShared(t, config(0, 6), 2, 8)
	list := takes(t, s, 0, 2048, 11) // regions of a page: the last one is half full
	frees(t, s, 1, list[4], list[6], list[7], list[8], list[9])
	if got := s.Trim(); got != 0 {
		t.Errorf("Trim: %d, with the last block handed out", got)
	}
	wantsKept(t, s, 1)
	frees(t, s, 1, list[10])
	if got := s.Trim(); got != 3 {
		t.Errorf("Trim: %d, not 3", got)
	}
	wantsKept(t, s, 1)
	if got := s.Stats(); got != (api.Stats{H: 3 * 4096, L: 5 * 2048, Blocks: 5}) {
		t.Errorf("Stats: %+v", got)
	}
	frees(t, s, 0, list[0], list[1], list[2], list[3], list[5])
	wantsKept(t, s, 0, 0, 0, 0, 0, 0, 0, 0, 5)
	if got := s.Trim(); got != 3 {
		t.Errorf("Trim of all: %d", got)
	}
	if s.Stats() != (api.Stats{}) || s.Trim() != 0 {
		t.Error("all is given back, and something is left")
	}
}

// P13.7: Stats gives all back, and tells of what is handed out alone.
func TestStats(t *testing.T) {
	for seed := range 40 {
		row := numbers(seed)
		c := config(7, 4)
		b := newBoth(t, c, 1+seed%16, seed%9)
		b.spread(&row, 150)
		live := b.s.Live()
		met := map[uint64]int{}
		want := api.Stats{Blocks: len(live)}
		for _, x := range live {
			want.L += x.Size
			met[x.P/4096]++
		}
		got := b.stats()
		want.H = got.H
		want.FreePages = int(got.H/4096) - len(met)
		if got != want {
			t.Fatalf("Stats: %+v, not %+v", got, want)
		}
		b.wantsNothingKept()
		b.check()
	}
}

// P13.7: Live tells what is handed out, rising, without what is at hand; and changes nothing.
func TestLive(t *testing.T) {
	for seed := range 40 {
		row := numbers(seed)
		b := newBoth(t, config(7, 4), 1+seed%16, 9)
		kept := b.spread(&row, 150)
		b.malloc(0, 8192, true)
		live := b.s.Live()
		if !slices.IsSortedFunc(live, func(one, other api.Block) int { return int(one.P) - int(other.P) }) {
			t.Fatal("Live does not rise")
		}
		if !slices.Equal(live, b.w.live()) || !slices.Equal(live, b.s.Live()) {
			t.Fatal("Live tells others")
		}
		if got := b.drain(); got != kept {
			t.Fatalf("%d were at hand, not %d", got, kept)
		}
		if !slices.Equal(live, b.s.Live()) {
			t.Fatal("Drain has changed what is handed out")
		}
	}
}

// P13.7: Live of the greatest heap, all in the least blocks.
func TestLiveOfGreat(t *testing.T) {
	s := newShared(t, config(8, 4), 16, 64)
	list := takes(t, s, 0, 16, 4<<20/16)
	for i := range 16 * 64 {
		frees(t, s, i%16, list[7*i])
	}
	got := s.Live()
	if len(got) != len(list)-1024 {
		t.Fatalf("%d blocks", len(got))
	}
	for _, b := range got {
		if i := (b.P - 1<<32) / 16; i%7 == 0 && i < 7*1024 || b.Size != 16 {
			t.Fatalf("%+v is told", b)
		}
	}
}

// P13.7: Kept of no worker is none; of each other a number for each class; and it changes nothing.
func TestKept(t *testing.T) {
	s := newShared(t, config(6, 1), 3, 5)
	var want []int
	for i, size := range smallSizes() {
		frees(t, s, 1, takes(t, s, 0, size, i%6)...)
		want = append(want, i%6)
	}
	for range 2 {
		wantsKept(t, s, 0)
		wantsKept(t, s, 1, want...)
		wantsKept(t, s, 2)
		for _, none := range noWorkers(3) {
			if got := s.Kept(none); len(got) != 0 {
				t.Errorf("Kept(%d): %v", none, got)
			}
		}
	}
}
