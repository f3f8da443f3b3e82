package count_test

import (
	"bytes"
	"cmp"
	"slices"
	"testing"

	"croft/api"
	"croft/count"
	"croft/malloc"
	"croft/oracle"
)

// held is a block, what it must hold, words and bytes, and whether it is an object that nobody keeps: then it refers to itself.
type held struct {
	api.Block
	bytes []byte
	loose bool
}

// house is a heap with the objects of some stores, blocks of others, and how many regions there are. Whether ENOMEM comes, and a region, it tells by the live blocks alone; where anything lies it is told, and holds against what must be.
type house struct {
	t       *testing.T
	c       api.Config
	h       *malloc.Heap
	regions int
	stores  []*count.Store
	objects [][]held // of each store
	strange []held
}

func newHouse(t *testing.T, c api.Config, many int) *house {
	t.Helper()
	x := &house{t: t, c: c, h: newHeap(t, c), objects: make([][]held, many)}
	for range many {
		x.stores = append(x.stores, count.New(x.h))
	}
	return x
}

// all tells the objects and the blocks of others.
func (x *house) all() []held { return slices.Concat(append(slices.Clone(x.objects), x.strange)...) }

func (x *house) live() []api.Block {
	var list []api.Block
	for _, b := range x.all() {
		list = append(list, b.Block)
	}
	return list
}

func (x *house) committed() uint64 { return uint64(x.regions) * regionBytes(x.c) }

// placed holds an answer to a request for a block of size r against T1, T2 and T4; it says whether there is a block.
func (x *house) placed(call string, r uint64, deny bool, got answer) bool {
	x.t.Helper()
	live := x.live()
	if oracle.Stuck(x.c, x.regions, live, r, deny) {
		wants(x.t, call, got, answer{0, api.ENOMEM})
		x.waste(r)
		return false
	}
	wantsError(x.t, call, got.e, api.OK)
	if oracle.NoFit(x.c, x.regions, live, r) {
		x.regions++
	}
	if oracle.Sound(x.c, x.regions, append(live, api.Block{P: got.p, Size: r})) != -1 {
		x.t.Fatalf("%s: %d is no block of %d committed bytes, or meets another", call, got.p, r)
	}
	return true
}

// waste is T4's inequality, asked where a call with the size r answered ENOMEM.
func (x *house) waste(r uint64) {
	x.t.Helper()
	c, m, sum := max(r, 4096), uint64(16), uint64(0)
	if r == 16 {
		m = 32
	}
	live := x.live()
	if !slices.ContainsFunc(live, func(b api.Block) bool { return b.Size < 4096 }) {
		m = 4096
	}
	for _, b := range live {
		sum += b.Size
	}
	if c*sum < m*x.committed() {
		x.t.Fatalf("ENOMEM of the size %d, with %d bytes live of %d", r, sum, x.committed())
	}
}

// makes asks for an object, and writes into its bytes.
func (x *house) makes(i int, row *numbers) {
	x.t.Helper()
	words, n := row.form(x.c)
	deny := row.below(3) == 0
	got, r := told(x.stores[i].Make(words, n, deny)), sizeFor(x.c, uint64(8*words+n))
	if r == 0 {
		wants(x.t, "Make", got, answer{0, api.ETOOBIG})
	} else if x.placed("Make", r, deny, got) {
		b := row.bytes(n)
		writes(x.t, x.stores[i], got.p, 0, b)
		x.objects[i] = append(x.objects[i], held{api.Block{P: got.p, Size: r}, append(make([]byte, 8*words), b...), false})
		if words > 0 && row.below(3) == 0 {
			x.loosens(i)
		}
	}
}

// others asks for a block past the stores and writes into it, or frees one of those.
func (x *house) others(row *numbers) {
	x.t.Helper()
	if i := row.below(len(x.strange) + 1); i < len(x.strange) && row.below(3) > 0 {
		wantsError(x.t, "the heap's Free", x.h.Free(x.strange[i].P), api.OK)
		x.strange = slices.Delete(x.strange, i, i+1)
		return
	}
	r, deny := uint64(16)<<row.below(9+x.c.Order), row.below(2) == 0
	got := told(x.h.Malloc(r, deny))
	if x.placed("the heap's Malloc", r, deny, got) {
		b := row.bytes(int(r))
		wantsError(x.t, "the heap's Write", x.h.Write(got.p, b), api.OK)
		x.strange = append(x.strange, held{api.Block{P: got.p, Size: r}, b, false})
	}
}

// loosens lets the last object of a store refer to itself, and drops it: it stays till a collection.
func (x *house) loosens(i int) {
	x.t.Helper()
	o := &x.objects[i][len(x.objects[i])-1]
	puts(x.t, x.stores[i], o.P, 0, o.P)
	drops(x.t, x.stores[i], o.P)
	for n := range 8 {
		o.bytes[n] = byte(o.P >> (8 * n))
	}
	o.loose = true
}

// drops lets an object go, if it is one that is kept.
func (x *house) drops(i int, row *numbers) {
	x.t.Helper()
	n := row.below(len(x.objects[i]) + 1)
	if n < len(x.objects[i]) && !x.objects[i][n].loose {
		drops(x.t, x.stores[i], x.objects[i][n].P)
		x.objects[i] = slices.Delete(x.objects[i], n, n+1)
	}
}

// collects lets go of all of a store's objects that nobody keeps.
func (x *house) collects(i int) {
	x.t.Helper()
	freed, sum := 0, uint64(0)
	x.objects[i] = slices.DeleteFunc(x.objects[i], func(b held) bool {
		if b.loose {
			freed++
			sum += b.Size
		}
		return b.loose
	})
	wantsSwept(x.t, x.stores[i], freed, sum)
}

// trim is T6: just the regions at the top go that meet no block.
func (x *house) trim() {
	x.t.Helper()
	want := 0
	meets := func(b api.Block) bool { return int((b.P-x.c.Base)/regionBytes(x.c)) == x.regions-1 }
	for ; x.regions > 0 && !slices.ContainsFunc(x.live(), meets); x.regions-- {
		want++
	}
	if got := x.h.Trim(); got != want {
		x.t.Fatalf("the heap's Trim: %d, not %d", got, want)
	}
}

// check: the heap's live blocks are the objects and those of others, and H is as T2 says; all that stands holds what was stored.
func (x *house) check() {
	x.t.Helper()
	rising := func(one, other api.Block) int { return cmp.Compare(one.P, other.P) }
	wantsLive(x.t, x.h, slices.SortedFunc(slices.Values(x.live()), rising)...)
	if got := x.h.Stats().H; got != x.committed() {
		x.t.Fatalf("H is %d, not %d", got, x.committed())
	}
	for _, b := range x.all() {
		if got, e := x.h.Read(b.P, uint64(len(b.bytes))); e != api.OK || !bytes.Equal(got, b.bytes) {
			x.t.Fatalf("the block at %d does not hold what was stored: %v", b.P, e)
		}
	}
}

func (x *house) call(row *numbers) {
	x.t.Helper()
	i := row.below(len(x.stores))
	switch kind := row.below(50); {
	case kind < 24:
		x.makes(i, row)
	case kind < 37:
		x.drops(i, row)
	case kind < 39:
		x.collects(i)
	case kind == 39:
		x.trim()
	default:
		x.others(row)
	}
}

// T1 to T6: behind long rows of calls of several stores, others using the heap beside, and when all is given back.
func TestHeapKeepsItsPromises(t *testing.T) {
	for seed := range 90 {
		row := numbers(seed)
		x := newHouse(t, config(seed%6, 1+seed%5), 1+seed%3)
		for range 150 {
			x.call(&row)
			x.check()
		}
		for i, s := range x.stores {
			for _, o := range x.objects[i] {
				if !o.loose {
					drops(t, s, o.P)
				}
			}
			x.objects[i] = slices.DeleteFunc(x.objects[i], func(b held) bool { return !b.loose })
			x.check()
			x.collects(i)
			x.check()
		}
		for _, b := range x.strange {
			wantsError(t, "the heap's Free", x.h.Free(b.P), api.OK)
		}
		x.strange = nil
		x.check()
		x.trim()
		if x.regions != 0 {
			t.Errorf("seed %d: all is given back, and regions are left", seed)
		}
	}
}

// worst does what T4 says by a store: k R / m objects, of which those go whose offset is no multiple of c, by Drop or by a collection; then Make for r bytes, denied.
func worst(t *testing.T, config api.Config, k, m, r uint64, ring bool) {
	t.Helper()
	s, h := begin(t, config)
	c := max(r, 4096)
	for _, p := range makesMany(t, s, int(k*regionBytes(config)/m), 1, int(m)-8) {
		if (p-config.Base)%c == 0 {
			continue
		}
		if ring {
			puts(t, s, p, 0, p)
		}
		drops(t, s, p)
	}
	s.Collect()
	refusesMake(t, s, h, 0, int(r), true, api.ENOMEM)
	refusesMake(t, s, h, int(r/8), 0, true, api.ENOMEM)
	if got := h.Stats(); got.H != k*regionBytes(config) || c*got.L != m*got.H {
		t.Errorf("%+v: the size %d over blocks of %d: %+v", config, r, m, got)
	}
}

// T4: both bounds are met with equality.
func TestWorst(t *testing.T) {
	for order := range 4 {
		c := config(order, 3)
		for k := uint64(1); k <= 3; k++ {
			for r := uint64(16); r <= regionBytes(c); r *= 2 {
				m := uint64(16)
				if r == 16 {
					m = 32
				}
				worst(t, c, k, m, r, k%2 == 0)
				worst(t, c, k, 4096, r, k%2 == 1)
			}
		}
	}
}
