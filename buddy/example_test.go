package buddy_test

import (
	"slices"
	"testing"

	"croft/api"
)

// example is the table's Config: a region has four pages, 65536, 69632, 73728, 77824.
func example() api.Config { return api.Config{Base: 65536, Limit: 2, Order: 2} }

// taken is what a Take answers.
type taken struct {
	p uint64
	e api.Errno
}

func (b *both) takes(orders ...int) []taken {
	b.t.Helper()
	var list []taken
	for _, order := range orders {
		p, e := b.take(order)
		list = append(list, taken{p, e})
	}
	return list
}

func (b *both) wantTaken(got []taken, want ...taken) {
	b.t.Helper()
	if !slices.Equal(got, want) {
		b.t.Errorf("Take: %v, not %v", got, want)
	}
}

func (b *both) wantErrors(what string, got []api.Errno, want ...api.Errno) {
	b.t.Helper()
	if !slices.Equal(got, want) {
		b.t.Errorf("%s: %v, not %v", what, got, want)
	}
}

// wantLists asks what stands on the lists, order by order, and holds all else against the model.
func (b *both) wantLists(want ...[]uint64) {
	b.t.Helper()
	for order, list := range want {
		if got := b.b.Free(order); !slices.Equal(got, list) {
			b.t.Errorf("Free(%d): %v, not %v", order, got, list)
		}
	}
	b.check()
}

// wantPairs asks the bits of all pairs of an order.
func (b *both) wantPairs(order int, want ...bool) {
	b.t.Helper()
	for i, bit := range want {
		if got := b.m.Pair(order, i*power(order+1)); got != bit {
			b.t.Errorf("the bit of the pair %d of order %d: %v", i, order, got)
		}
	}
}

// wantPages asks the kind and the order of all pages, from the first on.
func (b *both) wantPages(want ...[2]int) {
	b.t.Helper()
	for page, is := range want {
		if got, _ := b.m.At(page); got.Kind != is[0] || got.Order != is[1] {
			b.t.Errorf("page %d: %v, not %v", page, got, is)
		}
	}
}

// The chapter's table of examples, row by row.
func TestExamples(t *testing.T) {
	b := newBoth(t, example(), 0)
	b.wantTaken(b.takes(0), taken{0, api.ENOMEM})
	b.wantErrors("Feed, Pull", []api.Errno{b.feed(), b.pull()}, api.ESTATE, api.ESTATE)
	if got := b.b.Heads(); !slices.Equal(got, []uint64{0, 0, 0}) {
		t.Errorf("Heads: %v", got)
	}

	b.commit()
	b.grow()
	b.wantErrors("Feed twice", []api.Errno{b.feed(), b.feed()}, api.OK, api.ESTATE)
	b.wantLists(nil, nil, []uint64{65536})

	b.wantTaken(b.takes(0), taken{65536, api.OK})
	b.wantLists([]uint64{69632}, []uint64{73728}, nil)
	b.wantPairs(0, true, false)
	b.wantPairs(1, true)

	b.wantTaken(b.takes(0, 0), taken{69632, api.OK}, taken{73728, api.OK})
	b.wantLists([]uint64{77824}, nil, nil)

	b.wantErrors("Give(69632)", []api.Errno{b.give(69632, 1), b.give(69632, 0), b.give(69632, 0)}, api.EINVAL, api.OK, api.EINVAL)
	b.wantLists([]uint64{69632, 77824}, nil, nil)

	b.want("Give(73728, 0)", b.give(73728, 0), api.OK)
	b.wantLists([]uint64{69632}, []uint64{73728}, nil)

	b.wantTaken(b.takes(2, 1, 3, -1), taken{0, api.ENOMEM}, taken{73728, api.OK}, taken{0, api.EINVAL}, taken{0, api.EINVAL})
	b.wantLists([]uint64{69632}, nil, nil)

	b.wantErrors("Shrink(73728)",
		[]api.Errno{b.shrink(73728, 1, 0), b.shrink(73728, 1, 0), b.shrink(73728, 0, 0)}, api.OK, api.EINVAL, api.OK)
	b.wantLists([]uint64{77824, 69632}, nil, nil)

	b.wantErrors("Give, Pull, Give, Pull",
		[]api.Errno{b.give(65536, 0), b.pull(), b.give(73728, 0), b.pull()}, api.OK, api.ESTATE, api.OK, api.OK)
	b.wantLists(nil, nil, nil)

	b.want("Feed", b.feed(), api.OK)
	b.wantLists(nil, nil, []uint64{65536}, nil)
}
