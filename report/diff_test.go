package report_test

import (
	"math"
	"slices"
	"testing"

	"croft/api"
)

// fewBlocks tells some out of few, so that many are there several times.
func fewBlocks(row *numbers) []api.Block {
	ends := []uint64{0, 1, 2, 3, 16, 1 << 63, math.MaxUint64}
	kinds := 1 + row.below(len(ends))
	var list []api.Block
	for range row.below(16) {
		list = append(list, api.Block{P: ends[row.below(kinds)], Size: ends[row.below(kinds)]})
	}
	return list
}

// wantsDiffBy holds Diff against plain counting, both ways round.
func wantsDiffBy(t *testing.T, old, now []api.Block) {
	t.Helper()
	came, went := diffBy(old, now)
	wantsDiff(t, old, now, came, went)
	wantsDiff(t, now, old, went, came)
}

// P20.6, P20.7: lists of blocks that are there several times in one or in both, in many orders, held against plain counting.
func TestDiffOfAnyLists(t *testing.T) {
	for seed := range 1500 {
		row := numbers(seed)
		old, now := fewBlocks(&row), fewBlocks(&row)
		wantsDiffBy(t, old, now)
		came, went := diffBy(old, now)
		wantsDiff(t, shuffled(old, &row), shuffled(now, &row), came, went)
	}
	for seed := range 150 {
		row := numbers(seed)
		old := anyBlocks(row.below(60), &row)
		now := append(anyBlocks(row.below(20), &row), shuffled(old, &row)[row.below(len(old)+1):]...)
		wantsDiffBy(t, old, shuffled(now, &row))
	}
}

// P20.6: nothing, and lists of which one is empty.
func TestDiffOfNothing(t *testing.T) {
	one := blocks(5, 6)
	wantsDiff(t, nil, nil, nil, nil)
	wantsDiff(t, []api.Block{}, nil, nil, nil)
	wantsDiff(t, nil, one, one, nil)
	wantsDiff(t, one, nil, nil, one)
	wantsDiff(t, one, one[:0], nil, one)
	wantsDiff(t, []api.Block{}, append(one, one...), append(one, one...), nil)
}

// P20.6: each as often as it is there more often.
func TestDiffCounts(t *testing.T) {
	for old := range 5 {
		for now := range 5 {
			one := blocks(7, 16)
			wantsDiff(t, slices.Repeat(one, old), slices.Repeat(one, now), slices.Repeat(one, max(0, now-old)), slices.Repeat(one, max(0, old-now)))
		}
	}
	many := slices.Repeat(blocks(7, 16, 9, 16), 50000)
	wantsDiff(t, many[:50000], many[50000:], nil, nil)
	wantsDiff(t, many[1:], many, blocks(7, 16), nil)
	wantsDiff(t, many, many[:len(many)-1], nil, blocks(9, 16))
}

// P20.6: they rise by P, then by Size, as numbers; one P with two Sizes is two blocks.
func TestDiffRises(t *testing.T) {
	want := blocks(0, 0, 0, math.MaxUint64, 1, 2, 1, 3, 1, 20, 1, 100, 2, 1, 10, 1, 1<<63, 0, 1<<63, 1<<63, math.MaxUint64, 0, math.MaxUint64, math.MaxUint64)
	row := numbers(1)
	for range 50 {
		wantsDiff(t, nil, shuffled(want, &row), want, nil)
		wantsDiff(t, shuffled(want, &row), nil, nil, want)
		wantsDiff(t, shuffled(want[:5], &row), shuffled(want[5:], &row), want[5:], want[:5])
	}
	wantsDiff(t, blocks(1, 2), blocks(1, 3), blocks(1, 3), blocks(1, 2))
	wantsDiff(t, blocks(1, 2, 1, 3), blocks(1, 3), nil, blocks(1, 2))
	wantsDiff(t, blocks(2, 1), blocks(1, 2), blocks(1, 2), blocks(2, 1))
}

// P20.6: every order of a list against every order of another.
func TestDiffInEveryOrder(t *testing.T) {
	given := 0
	permuted(blocks(1, 2, 1, 2, 5, 6, 0, 9), func(old []api.Block) {
		permuted(blocks(1, 3, 1, 2, 5, 6, 5, 6), func(now []api.Block) {
			given++
			wantsDiff(t, old, now, blocks(1, 3, 5, 6), blocks(0, 9, 1, 2))
		})
	})
	if given != 576 {
		t.Error(given)
	}
}

// P20.7: Diff of a list and itself is nothing, in whatever order it stands.
func TestDiffOfItself(t *testing.T) {
	for seed := range 200 {
		row := numbers(seed)
		for _, list := range [][]api.Block{fewBlocks(&row), anyBlocks(row.below(50), &row)} {
			wantsDiff(t, list, list, nil, nil)
			wantsDiff(t, list, shuffled(list, &row), nil, nil)
		}
	}
}

// P20.6: the live blocks of heaps, before and behind some calls: what came and what went lead from one to the other.
func TestDiffOfHeaps(t *testing.T) {
	for order := range 9 {
		for seed := range 4 {
			row := numbers(seed)
			h := newHeap(t, config(order, []int{1, 2, 5, 64}[seed]))
			for range 30 {
				old := h.Live()
				for range row.below(6) {
					anyCall(h, &row)
				}
				wantsDiffBy(t, old, h.Live())
			}
		}
	}
	h := newHeap(t, example())
	p, _ := h.Malloc(100, false)
	old := h.Live()
	q, _ := h.Realloc(p, 5000, false)
	wantsDiff(t, old, h.Live(), blocks(q, 8192), blocks(p, 128))
	old = h.Live()
	h.Realloc(q, 4096, false)
	wantsDiff(t, old, h.Live(), blocks(q, 4096), blocks(q, 8192))
}
