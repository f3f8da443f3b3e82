package walk_test

import (
	"slices"
	"sync"
	"testing"

	"croft/api"
	"croft/walk"
)

// R4: what Blocks tells is new memory, spare room too: it shares none with what it told before, nor with the image.
func TestBlocksApart(t *testing.T) {
	for seed := range 20 {
		row := numbers(seed)
		im := someImage(config(seed%5, 3), 1+row.below(3), &row)
		ahead := copied(im)
		one, other := walk.Blocks(im), walk.Blocks(im)
		if !slices.Equal(one, other) {
			t.Fatalf("Blocks: %v, then %v", one, other)
		}
		want := slices.Clone(other)
		one = one[:cap(one)]
		for i := range one {
			one[i] = api.Block{P: 1, Size: 1}
		}
		if !slices.Equal(other, want) || !slices.Equal(walk.Blocks(im), want) || !same(im, ahead) {
			t.Fatal("what Blocks told shares memory")
		}
		clear(im.Mem)
		clear(im.Pages)
		if !slices.Equal(other, want) {
			t.Fatal("what Blocks told hangs on the image")
		}
	}
}

// R5: an answer hangs on the image alone: not on the images ahead, not on spare room, not on a list being nil or empty.
func TestNothingKept(t *testing.T) {
	wants(t, "hand", hand(), 0, 0)
	im := hand()
	im.Heads[0] = 1
	wants(t, "spoilt", im, 8, 0)
	wants(t, "hand once more", hand(), 0, 0)
	none := laid(config(0, 1))
	none.Mem, none.Pages, none.Pairs = nil, nil, nil
	wants(t, "nil lists", none, 0, 0)
	none.Mem, none.Pages, none.Pairs = []byte{}, []api.Page{}, [][]uint64{}
	wants(t, "empty lists", none, 0, 0)
	if list := walk.Blocks(none); len(list) != 0 {
		t.Error(list)
	}
}

// P9.4, R5: one image may be asked from several goroutines: it is only read.
func TestTogether(t *testing.T) {
	row := numbers(7)
	im := someImage(config(3, 3), 3, &row)
	want := liveBlocks(im)
	var all sync.WaitGroup
	for range 8 {
		all.Go(func() {
			for range 20 {
				if rule, place := walk.Check(im); rule != 0 || place != 0 {
					t.Errorf("Check: %d, %d", rule, place)
				}
				if !slices.Equal(walk.Blocks(im), want) {
					t.Error("other blocks")
				}
			}
		})
	}
	all.Wait()
}
