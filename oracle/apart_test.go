package oracle_test

import (
	"slices"
	"sync"
	"testing"

	"croft/api"
	"croft/oracle"
)

// answers is all that the calls on lists say.
type answers struct {
	sound, least int
	ok           bool
	fits         [17]bool
	stuck        [17]bool
}

// ask asks them all.
func ask(c api.Config, regions int, live []api.Block, sizes []uint64) answers {
	var a answers
	a.sound = oracle.Sound(c, regions, live)
	a.least, a.ok = oracle.Least(c, live, sizes)
	for i, r := range sizesOf(c) {
		a.fits[i] = oracle.NoFit(c, regions, live, r)
		a.stuck[i] = oracle.Stuck(c, regions, live, r, false)
	}
	return a
}

// R5: the same is asked often, with other things between: the answer is the same, in whatever order the pages are gone through; nor does it hang on where a list lies.
func TestSameAnswers(t *testing.T) {
	for seed := range 90 {
		row := numbers(seed)
		c := config(seed%9, 1+row.below(4))
		regions := row.below(c.Limit + 1)
		live, sizes := crowded(c, regions, &row), drawnSizes(c, 9, &row)
		if row.below(4) == 0 {
			live = spoilt(c, live, &row)
		}
		want := ask(c, regions, live, sizes)
		for range 6 {
			other := config(row.below(9), 2)
			ask(other, 1, drawn(other, 1, &row), drawnSizes(other, 3, &row))
			if got := ask(c, regions, slices.Clone(live), slices.Clone(sizes)); got != want {
				t.Fatalf("asked again: %v, not %v", got, want)
			}
		}
	}
}

// R4: nothing of a list is kept: what is written over it is not seen later.
func TestNothingKept(t *testing.T) {
	c := config(2, 3)
	live, sizes := cells(c.Base, 2048, 8), several(4096, 5)
	want := ask(c, 2, live, sizes)
	ahead := slices.Clone(live)
	for i := range live {
		live[i] = api.Block{P: c.Base, Size: 16}
	}
	clear(sizes)
	if got := ask(c, 2, ahead, several(4096, 5)); got != want {
		t.Errorf("%v, not %v", got, want)
	}
	if got := ask(c, 2, live, sizes); got.sound != 1 || got.ok {
		t.Errorf("of other lists: %v", got)
	}
}

// R4: nil and an empty list are one.
func TestEmptyLists(t *testing.T) {
	for order := range 9 {
		c := config(order, 3)
		for regions := range c.Limit + 1 {
			want := ask(c, regions, nil, nil)
			if got := ask(c, regions, []api.Block{}, []uint64{}); got != want || got.sound != -1 || !got.ok || got.least != 0 {
				t.Errorf("%v, not %v", got, want)
			}
		}
	}
}

// R5: several may ask of one list at the same time.
func TestTogether(t *testing.T) {
	row := numbers(5)
	c := config(3, 3)
	live, sizes := drawn(c, 3, &row), drawnSizes(c, 9, &row)
	want := ask(c, 3, live, sizes)
	got := make([]answers, 8)
	var all sync.WaitGroup
	for i := range got {
		all.Go(func() {
			for range 20 {
				got[i] = ask(c, 3, live, sizes)
			}
		})
	}
	all.Wait()
	for _, a := range got {
		if a != want {
			t.Errorf("%v, not %v", a, want)
		}
	}
}
