package report_test

import (
	"math"
	"slices"
	"testing"

	"croft/api"
)

// oddSizes tells some of every magnitude, those at the ends of what a number can be among them.
func oddSizes() []uint64 {
	return []uint64{
		0, 1, 2, 3, 9, 10, 11, 15, 16, 17, 19, 20, 24, 99, 100, 101, 4095, 4096, 8192, 1 << 20, 1<<31 - 1, 1 << 31, 1<<32 - 1, 1 << 32,
		1<<62 + 1, 1<<63 - 1, 1 << 63, 1<<63 + 1, math.MaxUint64 / 3, math.MaxUint64/3 + 1, math.MaxUint64 - 1, math.MaxUint64,
	}
}

// anyBlocks tells so many of any numbers at all, many of them twice or more often.
func anyBlocks(count int, row *numbers) []api.Block {
	sizes := shuffled(oddSizes(), row)[:1+row.below(12)]
	var list []api.Block
	for range count {
		b := api.Block{P: row.word() >> row.below(64), Size: sizes[row.below(len(sizes))]}
		if row.below(3) > 0 {
			b.P = sizes[row.below(len(sizes))]
		}
		if row.below(20) == 0 {
			b.Size = row.word()
		}
		list = append(list, b)
	}
	return list
}

// P20.1: lists of any numbers, in many orders, held against plain counting.
func TestSizesOfAnyLists(t *testing.T) {
	for seed := range 600 {
		row := numbers(seed)
		list := anyBlocks(row.below(60), &row)
		want := sizesBy(list)
		wantsSizes(t, list, want)
		for range 3 {
			wantsSizes(t, shuffled(list, &row), want)
		}
		back := slices.Clone(list)
		slices.Reverse(back)
		wantsSizes(t, back, want)
	}
}

// permuted gives a list in each of its orders.
func permuted(list []api.Block, give func(list []api.Block)) {
	if len(list) == 0 {
		give(nil)
		return
	}
	for i, first := range list {
		others := slices.Delete(slices.Clone(list), i, i+1)
		permuted(others, func(rest []api.Block) { give(append([]api.Block{first}, rest...)) })
	}
}

// P20.1, P20.7: one list in every order.
func TestSizesInEveryOrder(t *testing.T) {
	given := 0
	permuted(blocks(1, 100, 2, 20, 3, 9, 4, 20, 5, math.MaxUint64, 6, 0), func(list []api.Block) {
		given++
		wantsSizes(t, list, "0 1 0\n9 1 9\n20 2 40\n100 1 100\n18446744073709551615 1 18446744073709551615\n")
	})
	if given != 720 {
		t.Error(given)
	}
}

// P20.1: no block, no line.
func TestSizesOfNothing(t *testing.T) {
	wantsSizes(t, nil, "")
	wantsSizes(t, []api.Block{}, "")
	wantsSizes(t, blocks(1, 16)[:0], "")
}

// P20.1: the sizes rise as numbers, not as texts; where a block is does not matter, nor whether two are at one place.
func TestSizesRise(t *testing.T) {
	wantsSizes(t, blocks(7, 9, 6, 10, 5, 100, 4, 20, 3, 2), "2 1 2\n9 1 9\n10 1 10\n20 1 20\n100 1 100\n")
	wantsSizes(t, blocks(7, 16, 7, 16, 7, 16), "16 3 48\n")
	wantsSizes(t, blocks(0, 16, math.MaxUint64, 16), "16 2 32\n")
	wantsSizes(t, blocks(1, 5, 2, 5), "5 2 10\n")
	for _, size := range oddSizes() {
		wantsSizes(t, blocks(3, size), sizesBy(blocks(0, size)))
	}
}

// P20.1: sizes 0 and 2^64 - 1; bytes together that pass 2^64 are told modulo that.
func TestSizesAtTheirEnds(t *testing.T) {
	wantsSizes(t, blocks(0, 0), "0 1 0\n")
	wantsSizes(t, blocks(0, 0, 1, 0, 2, 0), "0 3 0\n")
	wantsSizes(t, blocks(0, math.MaxUint64), "18446744073709551615 1 18446744073709551615\n")
	wantsSizes(t, blocks(0, math.MaxUint64, 0, math.MaxUint64), "18446744073709551615 2 18446744073709551614\n")
	wantsSizes(t, blocks(0, 1<<63, 0, 1<<63), "9223372036854775808 2 0\n")
	wantsSizes(t, blocks(0, 1<<63, 0, 1<<63, 9, 1<<63), "9223372036854775808 3 9223372036854775808\n")
	wantsSizes(t, blocks(0, 1<<63-1, 0, 1<<63-1), "9223372036854775807 2 18446744073709551614\n")
	wantsSizes(t, blocks(0, 1<<63+1, 0, 1<<63+1), "9223372036854775809 2 2\n")
	wantsSizes(t, blocks(0, math.MaxUint64, 0, 0, 0, 1<<63), "0 1 0\n9223372036854775808 1 9223372036854775808\n18446744073709551615 1 18446744073709551615\n")
}

// P20.1: one size very often, and very many sizes.
func TestSizesOfLongLists(t *testing.T) {
	wantsSizes(t, slices.Repeat(blocks(1, 16), 300000), "16 300000 4800000\n")
	wantsSizes(t, slices.Repeat(blocks(1, 1<<62), 4*100000+3), "4611686018427387904 400003 13835058055282163712\n")
	var list []api.Block
	for i := range uint64(3000) {
		list = append(list, api.Block{P: i, Size: i * 7919 % 3001 * 1000003})
	}
	wantsSizes(t, list, sizesBy(list))
}

// P20.1: the live blocks of heaps of many Configs, behind many calls.
func TestSizesOfHeaps(t *testing.T) {
	for order := range 9 {
		for seed := range 4 {
			row := numbers(seed)
			h := newHeap(t, config(order, []int{1, 2, 5, 64}[seed]))
			wantsSizes(t, h.Live(), "")
			for range 120 {
				anyCall(h, &row)
				wantsSizes(t, h.Live(), sizesBy(h.Live()))
			}
			wantsSizes(t, shuffled(h.Live(), &row), sizesBy(h.Live()))
		}
	}
}
