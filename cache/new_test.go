package cache_test

import (
	"testing"

	"croft/api"
	"croft/cache"
)

func refusesNew(t *testing.T, c api.Config, workers, depth int) {
	t.Helper()
	if s, e := cache.New(c, workers, depth); s != nil || e != api.EINVAL {
		t.Errorf("New(%+v, %d, %d): %v, %v", c, workers, depth, s, e)
	}
}

// P13.1: from 1 to MaxWorkers workers, each keeps from 0 to MaxDepth blocks of each class, and not one more.
func TestWorkersAndDepths(t *testing.T) {
	for workers := 1; workers <= 16; workers++ {
		for _, depth := range []int{0, 1, 2, 7, 63, 64} {
			s := newShared(t, config(6, 1), workers, depth)
			for worker := range workers {
				wantsKept(t, s, worker)
			}
			for _, size := range []uint64{16, 256} {
				frees(t, s, workers-1, takes(t, s, 0, size, depth+1)...)
			}
			wantsKept(t, s, workers-1, depth, 0, 0, 0, depth)
			for _, none := range noWorkers(workers) {
				wantsNone(t, s, none)
			}
		}
	}
}

// wantsNone asks that a number is no worker's.
func wantsNone(t *testing.T, s *cache.Shared, worker int) {
	t.Helper()
	if got := s.Kept(worker); len(got) != 0 {
		t.Errorf("Kept(%d): %v", worker, got)
	}
	wants(t, worker, told(s.Malloc(worker, 1, false)), answer{0, api.EINVAL})
}

// P13.1: all depths of all classes.
func TestDepthOfEachClass(t *testing.T) {
	for depth := range 65 {
		s := newShared(t, config(8, 1), 1, depth) // one region has room for all: none comes later, ahead of which what is at hand would go
		var want []int
		for _, size := range smallSizes() {
			frees(t, s, 0, takes(t, s, 0, size, depth+1)...)
			want = append(want, depth)
			wantsKept(t, s, 0, want...)
		}
		if got := s.Drain(); got != 8*depth {
			t.Errorf("Drain: %d, not %d", got, 8*depth)
		}
	}
}

// P13.1: what is not from 1 to MaxWorkers, or from 0 to MaxDepth.
func TestRefusedNumbers(t *testing.T) {
	for _, workers := range []int{0, -1, -16, 17, 18, 1 << 32, 1<<63 - 1, -1 << 63} {
		for _, depth := range []int{0, 1, 64, 65, -1} {
			refusesNew(t, example(), workers, depth)
		}
	}
	for _, depth := range []int{-1, -64, 65, 66, 1 << 32, 1<<63 - 1, -1 << 63} {
		for _, workers := range []int{0, 1, 16, 17} {
			refusesNew(t, example(), workers, depth)
		}
	}
}

// P13.1: Configs that may not be, whatever the numbers are; and those at the limits, that may.
func TestConfigs(t *testing.T) {
	for _, c := range []api.Config{
		{}, {Base: 0, Limit: 2, Order: 1}, {Base: 4096, Limit: 2, Order: 1}, {Base: 65537, Limit: 2, Order: 1},
		{Base: 65536, Limit: 0, Order: 1}, {Base: 65536, Limit: -1, Order: 1}, {Base: 65536, Limit: 65, Order: 1},
		{Base: 1 << 20, Limit: 1, Order: 9}, {Base: 65536, Limit: 1, Order: -1}, {Base: 1 << 20, Limit: 5, Order: 8},
		{Base: 1 << 63, Limit: 1, Order: 0}, {Base: 1<<63 - 4096, Limit: 2, Order: 0}, {Base: 1<<64 - 4096, Limit: 1, Order: 0},
		{Base: 65536, Limit: 1 << 62, Order: 1}, {Base: 65536, Limit: 1, Order: 1 << 62}, {Base: 65536, Limit: 33, Order: 5},
	} {
		refusesNew(t, c, 1, 1)
		refusesNew(t, c, 16, 64)
		refusesNew(t, c, 0, -1)
	}
	for _, c := range []api.Config{
		{Base: 4096, Limit: 64, Order: 0}, {Base: 1 << 20, Limit: 4, Order: 8}, {Base: 1<<63 - 4096, Limit: 1, Order: 0}, {Base: 1<<63 - 1<<22, Limit: 4, Order: 8},
	} {
		s := newShared(t, c, 16, 64)
		wants(t, c, told(s.Malloc(15, 1, false)), answer{c.Base, api.OK})
	}
}

// P13.1: a new one is empty: no region, nothing handed out, nothing at hand.
func TestNewIsEmpty(t *testing.T) {
	for order := range 9 {
		s := newShared(t, config(order, 64), 16, 64)
		wantsLive(t, s)
		for worker := range 16 {
			wantsKept(t, s, worker)
		}
		if s.Drain() != 0 || s.Stats() != (api.Stats{}) || s.Trim() != 0 {
			t.Errorf("order %d: it is not empty", order)
		}
		wants(t, "denied", told(s.Malloc(0, 1, true)), answer{0, api.ENOMEM})
	}
}
