package trace_test

import (
	"testing"

	"croft/api"
	"croft/trace"
)

// P17.5: 1 the first time, then one more each time, of one object twice too; what was refused takes no number.
func TestWeakNumbers(t *testing.T) {
	s, h := begin(t, example())
	wantsWeak(t, s)
	refusesObject(t, s, h, 0, 65536, most)
	list := makesMany(t, s, 3, 1, 0)
	var want []uint64
	for i, which := range []int{1, 1, 0, 2, 1, 0, 0} {
		want = append(want, list[which])
		weakens(t, s, list[which], i+1)
		wantsWeak(t, s, want...)
		for _, p := range noObjects(list...) {
			if got, e := s.Weak(p); got != 0 || e != api.EINVAL {
				t.Fatalf("Weak(%d): %d, %v", p, got, e)
			}
		}
		wantsWeak(t, s, want...)
	}
}

// P17.5: numbers that were never answered: 0, below it, one more than the last, far out; behind collections, too.
func TestDerefOfNone(t *testing.T) {
	s, h := begin(t, example())
	for last := range 6 {
		unchanged(t, "Deref", s, h, func() {
			for _, weak := range []int{0, -1, -2, bottom, bottom + 1, last + 1, last + 2, last + 64, 1 << 32, top} {
				wants(t, "Deref", told(s.Deref(weak)), answer{0, api.EINVAL})
			}
		})
		weakens(t, s, makes(t, s, 0, 0), last+1)
		if last%2 == 1 {
			s.Collect()
		}
	}
	wantsWeak(t, s, 0, 0, 0, 0, 0, 0)
}

// P17.5, P17.7: a weak number does not keep its object, nor what that leads to, and refers to nothing once it is not reached.
func TestWeakKeepsNothing(t *testing.T) {
	s, _ := begin(t, example())
	list := makesMany(t, s, 4, 1, 0)
	chains(t, s, list[1:]...)
	for i, p := range list {
		weakens(t, s, p, i+1)
	}
	roots(t, s, "a", list[0])
	wantsSwept(t, s, 3, 48)
	wantsWeak(t, s, list[0], 0, 0, 0)
	wantsObjects(t, s, list[0])
	unroots(t, s, "a")
	wantsWeak(t, s, list[0], 0, 0, 0)
	wantsSwept(t, s, 1, 16)
	wantsWeak(t, s, 0, 0, 0, 0)
}

// P17.7: all weak numbers of an object, and those alone.
func TestWeakTwice(t *testing.T) {
	s, _ := begin(t, example())
	p, q := makes(t, s, 0, 0), makes(t, s, 0, 0)
	for i, object := range []uint64{p, q, p, q, p} {
		weakens(t, s, object, i+1)
	}
	roots(t, s, "q", q)
	wantsSwept(t, s, 1, 16)
	wantsWeak(t, s, 0, q, 0, q, 0)
	weakens(t, s, q, 6)
	wantsSwept(t, s, 0, 0)
	wantsWeak(t, s, 0, q, 0, q, 0, q)
}

// P17.9: a weak number that has answered 0 does so for ever, also when an object is made at the same address, named, and weakly referred to by a new number.
func TestWeakForEver(t *testing.T) {
	s, _ := begin(t, example())
	var want []uint64
	for i := range 30 {
		p := makes(t, s, 1, 8)
		if p != 65536 {
			t.Fatalf("the object is at %d", p)
		}
		weakens(t, s, p, i+1)
		wantsWeak(t, s, append(want, p)...)
		roots(t, s, "a", p)
		wantsSwept(t, s, 0, 0)
		wantsWeak(t, s, append(want, p)...)
		unroots(t, s, "a")
		wantsSwept(t, s, 1, 16)
		want = append(want, 0)
		wantsWeak(t, s, want...)
	}
}

// P17.7: an object that Due keeps is not reached: its weak numbers, and those of all that it alone leads to, refer to nothing, though they are objects still, and may be weakly referred to anew.
func TestWeakOfDue(t *testing.T) {
	s, _ := begin(t, example())
	list := makesMany(t, s, 3, 1, 0)
	chains(t, s, list...)
	for i, p := range list {
		weakens(t, s, p, i+1)
	}
	finals(t, s, list[0])
	roots(t, s, "last", list[2])
	wantsSwept(t, s, 0, 0, list[0])
	wantsWeak(t, s, 0, 0, list[2])
	wantsObjects(t, s, list...)
	weakens(t, s, list[0], 4)
	weakens(t, s, list[1], 5)
	roots(t, s, "first", list[0])
	wantsSwept(t, s, 0, 0)
	wantsWeak(t, s, 0, 0, list[2], list[0], list[1])
}

// P17.5: Deref tells, and keeps nothing: a collection behind it frees all the same.
func TestDerefKeepsNothing(t *testing.T) {
	s, _ := begin(t, example())
	p := makes(t, s, 0, 0)
	weakens(t, s, p, 1)
	wantsWeak(t, s, p)
	wantsWeak(t, s, p)
	wantsSwept(t, s, 1, 16)
	wantsWeak(t, s, 0)
}

// P17.5: each store has numbers of its own.
func TestWeakOfTwoStores(t *testing.T) {
	s, h := begin(t, example())
	other := trace.New(h)
	p, q := makes(t, s, 0, 0), makes(t, other, 0, 0)
	weakens(t, s, p, 1)
	weakens(t, s, p, 2)
	wantsWeak(t, other)
	refusesObject(t, other, h, p)
	weakens(t, other, q, 1)
	wantsSwept(t, other, 1, 16)
	wantsWeak(t, other, 0)
	wantsWeak(t, s, p, p)
}
