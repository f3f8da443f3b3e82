package report_test

import (
	"slices"
	"sync"
	"testing"

	"croft/api"
	"croft/report"
)

// told is all that the calls answer of an image.
type told struct {
	pages string
	free  [9]int
	waste [20]int
}

// ask asks them all.
func ask(im api.Image) told {
	is := told{pages: report.Pages(im)}
	copy(is.free[:], report.Free(im))
	for i := range is.waste {
		is.waste[i] = report.Waste(im, 8<<i)
	}
	return is
}

// roomy is a copy of a list with spare room behind it, filled with something.
func roomy[T any](list []T, filler T) []T {
	room := slices.Repeat([]T{filler}, len(list)+5)
	copy(room, list)
	return room[:len(list)]
}

// whole is a list with its spare room.
func whole[T any](list []T) []T { return list[:cap(list)] }

// R4: an image that is handed in is not changed, spare room included; nor is one that is not sound.
func TestImagesStay(t *testing.T) {
	for seed := range 60 {
		row := numbers(seed)
		c := config(seed%9, 3)
		im := someImage(c, row.below(c.Limit+1), &row)
		if seed%3 == 0 && len(im.Pages) > 0 {
			spoil(&im, &row)
		}
		im.Mem, im.Pages, im.Heads, im.Partial = roomy(im.Mem, 7), roomy(im.Pages, api.Page{Kind: 3}), roomy(im.Heads, 9), roomy(im.Partial, 4)
		for k := range im.Pairs {
			im.Pairs[k] = roomy(im.Pairs[k], 5)
		}
		im.Pairs = roomy(im.Pairs, []uint64{6})
		all := im
		all.Mem, all.Pages, all.Heads, all.Partial, all.Pairs = whole(im.Mem), whole(im.Pages), whole(im.Heads), whole(im.Partial), slices.Clone(whole(im.Pairs))
		for k := range all.Pairs {
			all.Pairs[k] = whole(all.Pairs[k])
		}
		ahead := copied(all)
		ask(im)
		if !same(all, ahead) {
			t.Fatalf("seed %d: the image was changed", seed)
		}
	}
}

// R4: lists of blocks that are handed in are not changed, spare room included, though they do not stand in order.
func TestListsStay(t *testing.T) {
	for seed := range 100 {
		row := numbers(seed)
		old, now := roomy(fewBlocks(&row), api.Block{P: 9, Size: 9}), roomy(anyBlocks(row.below(30), &row), api.Block{P: 8, Size: 8})
		oldAhead, nowAhead := slices.Clone(whole(old)), slices.Clone(whole(now))
		report.Diff(old, now)
		report.Diff(now, old)
		report.Diff(now, now)
		report.Sizes(old)
		report.Sizes(now)
		if !slices.Equal(whole(old), oldAhead) || !slices.Equal(whole(now), nowAhead) {
			t.Fatalf("seed %d: a list was changed", seed)
		}
	}
}

// R4: what Diff answers is new memory: written over, it changes neither what was handed in, nor the other list, nor a later answer; and the other way round.
func TestDiffIsNew(t *testing.T) {
	for seed := range 100 {
		row := numbers(seed)
		old, now := fewBlocks(&row), fewBlocks(&row)
		if seed%4 == 0 {
			old = nil // then all of now came
		}
		if seed%4 == 1 {
			now = nil
		}
		oldAhead, nowAhead := slices.Clone(old), slices.Clone(now)
		wantCame, wantWent := diffBy(old, now)
		came, went := report.Diff(old, now)
		other, another := report.Diff(old, now)
		fill(whole(came), api.Block{P: 77, Size: 77})
		if !slices.Equal(went, wantWent) {
			t.Fatal("both lists of an answer share memory")
		}
		fill(whole(went), api.Block{P: 78, Size: 78})
		if !slices.Equal(old, oldAhead) || !slices.Equal(now, nowAhead) || !slices.Equal(other, wantCame) || !slices.Equal(another, wantWent) {
			t.Fatal("an answer shares memory")
		}
		wantsDiff(t, old, now, wantCame, wantWent)
		fill(old, api.Block{P: 79, Size: 79})
		fill(now, api.Block{P: 80, Size: 80})
		if !slices.Equal(other, wantCame) || !slices.Equal(another, wantWent) {
			t.Fatal("an answer hangs on what was handed in")
		}
	}
}

func fill[T any](list []T, with T) {
	for i := range list {
		list[i] = with
	}
}

// R4: what Free answers is new memory; what is told of an image does not change when that is written over later.
func TestFreeIsNew(t *testing.T) {
	for seed := range 60 {
		row := numbers(seed)
		c := config(seed%9, 3)
		im := someImage(c, 1+row.below(c.Limit), &row)
		ahead, want := copied(im), ask(im)
		one, other := report.Free(im), report.Free(im)
		wanted := slices.Clone(one)
		fill(whole(one), -5)
		if !slices.Equal(other, wanted) || !same(im, ahead) || ask(im) != want {
			t.Fatal("what Free told shares memory")
		}
		text := report.Pages(im)
		clear(im.Mem)
		clear(im.Pages)
		clear(im.Heads)
		if !slices.Equal(other, wanted) || text != want.pages || ask(ahead) != want {
			t.Fatal("what was told hangs on the image")
		}
	}
}

// R5: the same is asked often, with other things between, of lists that lie elsewhere: the answer is the same, in whatever order maps are gone through.
func TestSameAnswers(t *testing.T) {
	for seed := range 60 {
		row := numbers(seed)
		c := config(seed%9, 3)
		im := someImage(c, row.below(c.Limit+1), &row)
		old, now := anyBlocks(40, &row), anyBlocks(40, &row)
		want, sizes := ask(im), report.Sizes(old)
		came, went := report.Diff(old, now)
		for range 8 {
			ask(hand())
			report.Diff(now, old)
			report.Sizes(now)
			if ask(copied(im)) != want {
				t.Fatal("the image is told otherwise")
			}
			wantsSizes(t, slices.Clone(old), sizes)
			wantsDiff(t, slices.Clone(old), slices.Clone(now), came, went)
		}
	}
}

// R4: nil and an empty list are one.
func TestEmptyLists(t *testing.T) {
	for order := range 9 {
		one := laid(config(order, 2))
		other := copied(one)
		one.Mem, one.Pages = nil, nil
		other.Mem, other.Pages = []byte{}, []api.Page{}
		for k := range one.Pairs {
			one.Pairs[k], other.Pairs[k] = nil, []uint64{}
		}
		if order == 0 {
			one.Pairs, other.Pairs = nil, [][]uint64{}
		}
		if ask(one) != ask(other) || report.Waste(one, 16) != 0 {
			t.Errorf("%v, %v", ask(one), ask(other))
		}
	}
}

// R5: several may ask of one image and of one list at the same time.
func TestTogether(t *testing.T) {
	row := numbers(7)
	im := someImage(config(3, 3), 3, &row)
	old, now := anyBlocks(50, &row), fewBlocks(&row)
	want, sizes := ask(im), report.Sizes(old)
	came, went := report.Diff(old, now)
	var all sync.WaitGroup
	for range 8 {
		all.Go(func() {
			for range 20 {
				if ask(im) != want {
					t.Error("the image is told otherwise")
				}
				wantsSizes(t, old, sizes)
				wantsDiff(t, old, now, came, went)
			}
		})
	}
	all.Wait()
}
