package oracle_test

import (
	"testing"

	"croft/api"
	"croft/malloc"
	"croft/oracle"
)

func newHeap(t *testing.T, c api.Config) *malloc.Heap {
	t.Helper()
	h, e := malloc.New(c)
	if e != api.OK {
		t.Fatal(e)
	}
	return h
}

// regionsOf tells how many a heap has.
func regionsOf(h *malloc.Heap) int { return int(h.Stats().H / region(h.Config())) }

// wantSize tells a size for a request, most often close to a power of 2 up to a region.
func wantSize(c api.Config, row *numbers) uint64 {
	r := uint64(8) << row.below(11+c.Order)
	return r - uint64(row.below(2)*row.below(int(r)))
}

// foretold asks a heap for a block, by a call that the oracle has told ahead: the error, and what H is.
func foretold(t *testing.T, h *malloc.Heap, n, size, align uint64, deny bool) {
	t.Helper()
	c, live, regions := h.Config(), h.Live(), regionsOf(h)
	all, want := oracle.Product(n, size)
	r, e := oracle.Round(c, all, align)
	if want == api.OK {
		want = e
	}
	grows := 0
	if want == api.OK && noFit(t, c, regions, live, r) {
		grows = 1
	}
	if want == api.OK && oracle.Stuck(c, regions, live, r, deny) {
		want, grows = api.ENOMEM, 0
	}
	p, got := uint64(0), api.OK
	switch {
	case align != 1:
		p, got = h.AlignedAlloc(align, all, deny)
	case n != 1:
		p, got = h.Calloc(n, size, deny)
	default:
		p, got = h.Malloc(size, deny)
	}
	if got != want || regionsOf(h) != regions+grows {
		t.Fatalf("%v with %d regions and %v: %d times %d at %d, %v: %v, %d regions; not %v, %d more", c, regions, live, n, size, align, deny, got, regionsOf(h), want, grows)
	}
	if got == api.OK {
		wantsSound(t, c, regions+grows, append(live, api.Block{P: p, Size: r}), -1)
	}
	if got == api.ENOMEM {
		wantsBound(t, c, regions, live, r)
	}
}

// anyCall does one, most often a request.
func anyCall(t *testing.T, h *malloc.Heap, row *numbers) {
	t.Helper()
	live, size, deny := h.Live(), wantSize(h.Config(), row), row.below(3) == 0
	switch kind := row.below(20); {
	case kind == 0:
		h.Trim()
	case kind == 1:
		foretold(t, h, row.word()>>row.below(64), row.word()>>row.below(64), 1, deny)
	case kind == 2:
		foretold(t, h, 1+uint64(row.below(3)), size, 1, deny)
	case kind < 5:
		foretold(t, h, 1, size, 1<<row.below(16), deny)
	case kind < 13 || len(live) == 0:
		foretold(t, h, 1, size, 1, deny)
	case kind == 13:
		h.Realloc(live[row.below(len(live))].P, size, deny)
	default:
		h.Free(live[row.below(len(live))].P)
	}
}

// T2, P11.1 to P11.3: of heaps of every Order, behind many calls, the live blocks tell what each request answers, and whether H rises.
func TestHeapsAsTold(t *testing.T) {
	for order := range 9 {
		for seed := range 4 {
			row := numbers(seed)
			c := config(order, max(1, []int{1, 2, 4, 64}[seed]>>(order/4)))
			h := newHeap(t, c)
			for range 400 {
				anyCall(t, h, &row)
				wantsSound(t, c, regionsOf(h), h.Live(), -1)
			}
		}
	}
}

// P11.2, P11.3, P11.5, P11.6: the live blocks of heaps behind many calls, in several orders, against the document's words.
func TestHeapsLive(t *testing.T) {
	for order := range 9 {
		for seed := range 4 {
			row := numbers(100 + seed)
			c := config(order, 3)
			h := newHeap(t, c)
			for range 4 + 56>>(order*2/3) {
				for range 5 {
					anyCall(t, h, &row)
				}
				live, regions := h.Live(), regionsOf(h)
				other := shuffled(live, &row)
				wantsSound(t, c, regions, other, soundBy(c, regions, live))
				for _, r := range sizesOf(c) {
					wantsNoFit(t, c, regions, other, r, noFitBy(c, regions, live, r))
				}
				wantsLeast(t, c, nil, sizesIn(other), leastOf(c, sizesIn(live)))
				half := other[:len(other)/2]
				if n, ok := least(t, c, half, sizesIn(other[len(half):])); !ok || n > regions {
					t.Fatalf("Least of what lies in %d: %d, %v", regions, n, ok)
				}
			}
		}
	}
}

// P11.6: heaps that are full of blocks of one size: nothing fits, but where one was given back.
func TestHeapsFull(t *testing.T) {
	for order := range 9 {
		c := config(order, 2)
		for _, size := range sizesOf(c) {
			if region(c)/size > 4096 {
				continue
			}
			h := newHeap(t, c)
			e := api.OK
			for e == api.OK {
				_, e = h.Malloc(size, false)
			}
			live := h.Live()
			for _, r := range sizesOf(c) {
				wantsNoFit(t, c, c.Limit, live, r, true)
				wantsNoFit(t, c, c.Limit, live[1:], r, r != size && (r > size || size < 4096))
				wantsBound(t, c, c.Limit, live, r)
			}
			wantsLeast(t, c, nil, sizesIn(live), c.Limit)
			wantsLeast(t, c, live, []uint64{size}, -1)
			wantsLeast(t, c, live[1:], []uint64{size}, c.Limit)
		}
	}
}
