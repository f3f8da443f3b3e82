package trace_test

import (
	"slices"
	"testing"

	"croft/api"
)

// P17.6, P17.7: an object that is final and not reached is told once, and kept that one time; it goes behind that.
func TestFinalOnce(t *testing.T) {
	s, h := begin(t, example())
	p := makes(t, s, 0, 5)
	writes(t, s, p, 0, []byte("still"))
	finals(t, s, p)
	wantsSwept(t, s, 0, 0, p)
	wantsObjects(t, s, p)
	wantsBytes(t, s, p, 0, []byte("still"))
	wantsSwept(t, s, 1, 16)
	refusesObject(t, s, h, p)
	wantsSwept(t, s, 0, 0)
}

// P17.6: Final twice is as once.
func TestFinalTwice(t *testing.T) {
	s, _ := begin(t, example())
	p := makes(t, s, 0, 0)
	finals(t, s, p, p, p)
	wantsSwept(t, s, 0, 0, p)
	wantsSwept(t, s, 1, 16)
}

// P17.6: one that was told may be asked for anew: as often as it is, it is told.
func TestFinalAnew(t *testing.T) {
	s, _ := begin(t, example())
	p := makes(t, s, 0, 0)
	for range 5 {
		finals(t, s, p)
		wantsSwept(t, s, 0, 0, p)
	}
	wantsSwept(t, s, 1, 16)
}

// P17.6: one that is reached stays final till it is not, behind any number of collections.
func TestFinalOfReached(t *testing.T) {
	s, _ := begin(t, example())
	list := makesMany(t, s, 2, 1, 0)
	chains(t, s, list...)
	roots(t, s, "a", list[0])
	finals(t, s, list...)
	for range 3 {
		wantsSwept(t, s, 0, 0)
	}
	puts(t, s, list[0], 0, 0)
	wantsSwept(t, s, 0, 0, list[1])
	puts(t, s, list[0], 0, list[1]) // it is reached again, and not final any more
	wantsSwept(t, s, 0, 0)
	unroots(t, s, "a")
	wantsSwept(t, s, 0, 0, list[0])
	wantsSwept(t, s, 2, 32)
}

// P17.7: Due keeps all to which its words lead, and nothing else.
func TestDueKeeps(t *testing.T) {
	s, _ := begin(t, example())
	list := makesMany(t, s, 7, 2, 0)
	chains(t, s, list[2:6]...) // 2 to 5 in a row; 0, 1 and 6 lead to them
	puts(t, s, list[0], 0, list[2])
	puts(t, s, list[1], 1, list[4])
	puts(t, s, list[6], 1, list[3])
	finals(t, s, list[1])
	wantsSwept(t, s, 4, 64, list[1])
	wantsObjects(t, s, list[1], list[4], list[5])
	wantsWord(t, s, list[1], 1, list[4])
	wantsWord(t, s, list[4], 0, list[5])
	wantsSwept(t, s, 3, 48)
}

// P17.7: a final object to which only another one leads that is not reached is not reached either: both are told at once.
func TestFinalBehindFinal(t *testing.T) {
	s, _ := begin(t, example())
	list := makesMany(t, s, 4, 1, 0)
	chains(t, s, list[3], list[2], list[1], list[0])
	finals(t, s, list[0], list[3], list[2])
	wantsSwept(t, s, 0, 0, list[0], list[2], list[3])
	wantsSwept(t, s, 4, 64)
}

// P17.7: final ones in a ring, all of them and some, and one that refers to itself.
func TestFinalInRing(t *testing.T) {
	for count := 1; count <= 6; count++ {
		for which := range 1 << count {
			s, _ := begin(t, example())
			list := makesMany(t, s, count, 1, 0)
			chains(t, s, append(slices.Clone(list), list[0])...)
			var due []uint64
			for i, p := range list {
				if which>>i&1 == 1 {
					due = append(due, p)
				}
			}
			finals(t, s, due...)
			if which != 0 {
				wantsSwept(t, s, 0, 0, due...)
				wantsObjects(t, s, list...)
			}
			wantsSwept(t, s, count, uint64(16*count))
			wantsObjects(t, s)
		}
	}
}

// P17.7: Due is in the order of making: not of asking, nor as they lie, nor as they lead to one another.
func TestDueInOrder(t *testing.T) {
	for seed := range 20 {
		row := numbers(seed)
		s, _ := begin(t, config(4, 2))
		var list []uint64
		for range 60 {
			list = append(list, makes(t, s, 1+row.below(60), 0))
		}
		asked := map[uint64]bool{}
		for range 40 {
			p := oneOf(&row, list...)
			asked[p] = true
			finals(t, s, p)
			puts(t, s, oneOf(&row, list...), 0, oneOf(&row, list...))
		}
		var want []uint64
		for _, p := range list {
			if asked[p] {
				want = append(want, p)
			}
		}
		if slices.IsSorted(want) {
			t.Fatal("they lie as they were made: the order is not seen")
		}
		if got := s.Collect(); !slices.Equal(got.Due, want) {
			t.Fatalf("Due: %v, not %v", got.Due, want)
		}
	}
}

// P17.7: what was told may be kept by a name, as it was.
func TestDueNamed(t *testing.T) {
	s, _ := begin(t, example())
	list := makesMany(t, s, 2, 1, 8)
	chains(t, s, list...)
	writes(t, s, list[1], 0, []byte("all here"))
	finals(t, s, list[0])
	wantsSwept(t, s, 0, 0, list[0])
	roots(t, s, "again", list[0])
	wantsSwept(t, s, 0, 0)
	wantsObjects(t, s, list...)
	wantsBytes(t, s, list[1], 0, []byte("all here"))
	unroots(t, s, "again")
	wantsSwept(t, s, 2, 32)
}

// P17.6: of no object EINVAL; one made at the address of a final one that went is not final.
func TestFinalOfNone(t *testing.T) {
	s, h := begin(t, example())
	refusesObject(t, s, h, noObjects(65536)...)
	p := makes(t, s, 0, 0)
	finals(t, s, p)
	wantsSwept(t, s, 0, 0, p)
	wantsSwept(t, s, 1, 16)
	wantsError(t, "Final", s.Final(p), api.EINVAL)
	if got := makes(t, s, 0, 0); got != p {
		t.Fatalf("the object is at %d", got)
	}
	wantsSwept(t, s, 1, 16)
}

// P17.7: several collections with final objects that lead to others of them, told at other times.
func TestDueOneBehindTheOther(t *testing.T) {
	s, _ := begin(t, example())
	list := makesMany(t, s, 3, 1, 0)
	chains(t, s, list...)
	roots(t, s, "middle", list[1])
	finals(t, s, list...)
	wantsSwept(t, s, 0, 0, list[0])
	wantsSwept(t, s, 1, 16)
	unroots(t, s, "middle")
	wantsSwept(t, s, 0, 0, list[1], list[2])
	finals(t, s, list[2])
	wantsSwept(t, s, 1, 16, list[2])
	wantsSwept(t, s, 1, 16)
	wantsObjects(t, s)
}
