package quota_test

import (
	"slices"
	"testing"

	"croft/api"
	"croft/malloc"
	"croft/quota"
)

// P14.6: Free of 0, of a block, of it once more, of another owner's, within a block, where none is.
func TestFree(t *testing.T) {
	b := newBank(t, example(), most, most)
	list := takesMany(t, b, 0, 32, 3)
	other, big := takes(t, b, 1, 32), takes(t, b, 1, 8192)
	unchanged(t, "Free of 0", b, func() { frees(t, b, 0, 0) })
	for _, p := range []uint64{other, big, list[0] + 1, list[0] + 16, other + 32, 1, 65535, 81920, most} {
		refusesFree(t, b, 0, p)
	}
	frees(t, b, 0, list[1])
	refusesFree(t, b, 0, list[1])
	refusesFree(t, b, 1, list[1])
	wantsUsed(t, b, 0, 64, most)
	wantsOwned(t, b, 0, api.Block{P: list[0], Size: 32}, api.Block{P: list[2], Size: 32})
	wantsFault(t, b, 0, list[1], 1)
	frees(t, b, 1, big)
	wants(t, "it is free again", told(b.Malloc(0, 8192, true)), answer{big, api.OK})
	wants(t, "so is this", told(b.Malloc(1, 20, true)), answer{list[1], api.OK})
	refusesFree(t, b, 0, list[1]) // it is the other's now
	frees(t, b, 1, list[1])
}

// P14.6: Close of an owner with blocks, and of one without: they go, and no others.
func TestClose(t *testing.T) {
	b := newBank(t, config(2, 4), most, most, most)
	var all []uint64
	for _, size := range []uint64{16, 4096, 16, 300, 8192, 16384} {
		all = append(all, takes(t, b, 0, size))
		takes(t, b, 1, size)
	}
	kept, _ := b.Owned(1)
	closes(t, b, 2, 0)
	wantsOwners(t, b, 0, 1)
	closes(t, b, 0, 6)
	wantsOwners(t, b, 1)
	wantsOwned(t, b, 1, kept...)
	wantsLive(t, b, kept...)
	for _, p := range all {
		refusesFree(t, b, 1, p)
	}
	unchanged(t, "Close once more", b, func() {
		if n, e := b.Close(0); n != 0 || e != api.EINVAL {
			t.Errorf("Close once more: %d, %v", n, e)
		}
	})
	closes(t, b, 1, 6)
	wantsOwners(t, b)
	wantsLive(t, b)
}

// laid are heaps of the same calls as a bank's: what one owner of it has was freed rising in the one, falling in the other, and in the order in which it came in the third.
func laid(t *testing.T, c api.Config, sizes []uint64, gone func(i int) bool) (b *quota.Bank, heaps []*malloc.Heap) {
	t.Helper()
	b = newBank(t, c, most, most)
	for range 3 {
		heaps = append(heaps, newHeap(t, c))
	}
	var list []uint64
	for i, size := range sizes {
		owner := 0
		if gone(i) {
			owner = 1
		}
		p := takes(t, b, owner, size)
		if owner == 1 {
			list = append(list, p)
		}
		for _, h := range heaps {
			wants(t, "the heap's", told(h.Malloc(size, false)), answer{p, api.OK})
		}
	}
	for way, h := range heaps {
		order := slices.Clone(list)
		if way < 2 {
			slices.Sort(order)
		}
		if way == 1 {
			slices.Reverse(order)
		}
		for _, p := range order {
			wantsError(t, "the heap's Free", h.Free(p), api.OK)
		}
	}
	closes(t, b, 1, len(list))
	return b, heaps
}

// P14.6: the blocks go back rising: seen by where later ones lie, which is elsewhere if they go back falling, or as they came.
func TestCloseGivesBackRising(t *testing.T) {
	others := [3]int{}
	for seed := range 60 {
		row := numbers(seed)
		c := config(4, 8)
		sizes := []uint64{}
		for range 10 + row.below(40) {
			sizes = append(sizes, 16<<oneOf(&row, 0, 1, 1, 1, 7, 8, 8))
		}
		b, heaps := laid(t, c, sizes, func(i int) bool { return i%3 != 0 })
		for range 30 {
			size := uint64(16) << oneOf(&row, 0, 1, 1, 7, 8, 9)
			got := told(b.Malloc(0, size, false))
			wants(t, "behind Close", got, told(heaps[0].Malloc(size, false)))
			for way := 1; way < 3; way++ {
				if told(heaps[way].Malloc(size, false)) != got {
					others[way]++
				}
			}
		}
	}
	if others[1] == 0 || others[2] == 0 {
		t.Errorf("the order is not seen: %v", others)
	}
}

// P14.6: the same of three cells alone, which were asked for rising and falling: what was freed last is handed out first.
func TestCloseOfCells(t *testing.T) {
	b := newBank(t, example(), most, most)
	takes(t, b, 0, 64)
	list := takesMany(t, b, 1, 64, 3)
	closes(t, b, 1, 3)
	opens(t, b, most, 1)
	slices.Reverse(list)
	for _, p := range list {
		wants(t, "the last first", told(b.Malloc(1, 64, true)), answer{p, api.OK})
	}
	closes(t, b, 1, 3) // they came falling this time
	for _, p := range list {
		wants(t, "the last first", told(b.Malloc(0, 64, true)), answer{p, api.OK})
	}
}
