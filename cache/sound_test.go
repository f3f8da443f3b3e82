package cache_test

import (
	"bytes"
	"slices"
	"testing"

	"croft/api"
	"croft/cache"
	"croft/oracle"
)

// owner uses a Shared by what it answers alone: it knows the blocks that are handed out, what they hold and how many regions there are, nothing of what is at hand, and asks T1 to T6 of the rest.
type owner struct {
	t       *testing.T
	c       api.Config
	s       *cache.Shared
	workers int
	regions int
	live    []api.Block
	held    map[uint64][]byte // what was read from a block when it was handed out, or stored there since
}

func newOwner(t *testing.T, c api.Config, workers, depth int) *owner {
	t.Helper()
	return &owner{t: t, c: c, s: newShared(t, c, workers, depth), workers: workers, held: map[uint64][]byte{}}
}

func (o *owner) committed() uint64 { return uint64(o.regions) * regionBytes(o.c) }

func (o *owner) bytes() uint64 {
	sum := uint64(0)
	for _, b := range o.live {
		sum += b.Size
	}
	return sum
}

// asked holds an answer to a request against T1, T2 and T4, and remembers the block.
func (o *owner) asked(call string, size, align uint64, deny bool, got answer) bool {
	o.t.Helper()
	r, e := oracle.Round(o.c, size, align)
	if e != api.OK {
		wants(o.t, call, got, answer{0, e})
		return false
	}
	if oracle.Stuck(o.c, o.regions, o.live, r, deny) {
		wants(o.t, call, got, answer{0, api.ENOMEM})
		o.waste(r)
		return false
	}
	wantsError(o.t, call, got.e, api.OK)
	if oracle.NoFit(o.c, o.regions, o.live, r) {
		o.regions++
	}
	o.live = append(o.live, api.Block{P: got.p, Size: r})
	if oracle.Sound(o.c, o.regions, o.live) != -1 {
		o.t.Fatalf("%s: %d is no block of %d committed bytes, or meets another", call, got.p, r)
	}
	held, e := o.s.Read(got.p, r)
	wantsError(o.t, "Read of a new block", e, api.OK)
	o.held[got.p] = held
	return true
}

// waste is T4's inequality, asked where a call with the size r answered ENOMEM.
func (o *owner) waste(r uint64) {
	o.t.Helper()
	c, m := max(r, 4096), uint64(16)
	if r == 16 {
		m = 32
	}
	if !slices.ContainsFunc(o.live, func(b api.Block) bool { return b.Size < 4096 }) {
		m = 4096
	}
	if c*o.bytes() < m*o.committed() {
		o.t.Fatalf("ENOMEM of the size %d, with %d bytes live of %d", r, o.bytes(), o.committed())
	}
}

// gone forgets the block number i.
func (o *owner) gone(i int) {
	delete(o.held, o.live[i].P)
	o.live = append(o.live[:i:i], o.live[i+1:]...)
}

func (o *owner) calloc(worker int, size uint64, deny bool) {
	o.t.Helper()
	a := told(o.s.Calloc(worker, size, 1, deny))
	if o.asked("Calloc", size, 1, deny, a) && !bytes.Equal(o.held[a.p], make([]byte, len(o.held[a.p]))) {
		o.t.Fatalf("Calloc: the block at %d is not all 0", a.p)
	}
}

// realloc is T3 of the block number i.
func (o *owner) realloc(worker, i int, size uint64, deny bool) {
	o.t.Helper()
	old, ahead := o.live[i], o.held[o.live[i].P]
	a := told(o.s.Realloc(worker, old.P, size, deny))
	r, e := oracle.Round(o.c, size, 1)
	if e == api.OK && (r == old.Size || 4096 <= r && r < old.Size) {
		wants(o.t, "Realloc", a, answer{old.P, api.OK})
		o.live[i].Size, o.held[old.P] = r, ahead[:r]
		return
	}
	if !o.asked("Realloc", size, 1, deny, a) {
		return
	}
	if n := min(r, old.Size); !bytes.Equal(o.held[a.p][:n], ahead[:n]) {
		o.t.Fatalf("Realloc from %d to %d: the bytes are others", old.P, a.p)
	}
	o.gone(i)
}

func (o *owner) free(worker, i int) {
	o.t.Helper()
	p := o.live[i].P
	wantsError(o.t, "Free", o.s.Free(worker, p), api.OK)
	wantsError(o.t, "Free once more", o.s.Free(worker, p), api.EINVAL)
	o.gone(i)
}

// meets says whether a region meets a block.
func (o *owner) meets(region int) bool {
	return slices.ContainsFunc(o.live, func(b api.Block) bool { return int((b.P-o.c.Base)/regionBytes(o.c)) == region })
}

// trim is T6: just the regions at the top go that meet nothing that is handed out.
func (o *owner) trim() {
	o.t.Helper()
	want := 0
	for ; o.regions > 0 && !o.meets(o.regions-1); o.regions-- {
		want++
	}
	if got := o.s.Trim(); got != want {
		o.t.Fatalf("Trim: %d, not %d", got, want)
	}
}

// stats is T6.
func (o *owner) stats() {
	o.t.Helper()
	met := map[uint64]int{}
	for _, b := range o.live {
		for p := b.P; p < b.P+b.Size; p += 16 {
			met[p/4096]++
		}
	}
	want := api.Stats{H: o.committed(), L: o.bytes(), Blocks: len(o.live), FreePages: int(o.committed()/4096) - len(met)}
	if got := o.s.Stats(); got != want {
		o.t.Fatalf("Stats: %+v, not %+v", got, want)
	}
}

// store writes into a block.
func (o *owner) store(i int, row *numbers) {
	o.t.Helper()
	b := o.live[i]
	at := row.below(int(b.Size))
	piece := row.bytes(1 + row.below(min(100, int(b.Size)-at)))
	wantsError(o.t, "Write", o.s.Write(b.P+uint64(at), piece), api.OK)
	copy(o.held[b.P][at:], piece)
}

// check: T1, T5, T6: the blocks that are handed out are just these, with what they hold.
func (o *owner) check() {
	o.t.Helper()
	list := slices.Clone(o.live)
	slices.SortFunc(list, func(one, other api.Block) int { return int(one.P) - int(other.P) })
	wantsLive(o.t, o.s, list...)
	for _, b := range list {
		if got, e := o.s.Read(b.P, b.Size); e != api.OK || !bytes.Equal(got, o.held[b.P]) {
			o.t.Fatalf("the block of %d bytes at %d does not hold what was stored: %v", b.Size, b.P, e)
		}
		wants(o.t, "UsableSize", told(o.s.UsableSize(b.P)), answer{b.Size, api.OK})
	}
}

// outside asks at addresses all over that just the bytes that are handed out may be read and written.
func (o *owner) outside(row *numbers) {
	o.t.Helper()
	for range 60 {
		p := o.c.Base - 64 + uint64(row.below(int(o.committed())+128))
		want := api.EFAULT
		if slices.ContainsFunc(o.live, func(b api.Block) bool { return b.P <= p && p < b.P+b.Size }) {
			want = api.OK
		}
		held, e := o.s.Read(p, 1)
		wantsError(o.t, "Read", e, want)
		wantsError(o.t, "Write", o.s.Write(p, append(held, 1)[:1]), want)
	}
}

func (o *owner) call(row *numbers) {
	o.t.Helper()
	size, deny, worker := row.size(o.c), row.below(3) == 0, row.below(o.workers)
	i := row.below(len(o.live) + 1)
	switch kind := row.below(40); {
	case kind == 0:
		o.trim()
	case kind == 1:
		o.stats()
	case kind < 13 || i == len(o.live):
		o.asked("Malloc", size, 1, deny, told(o.s.Malloc(worker, size, deny)))
	case kind < 15:
		o.calloc(worker, size, deny)
	case kind < 17:
		align := uint64(1) << row.below(14)
		o.asked("AlignedAlloc", size, align, deny, told(o.s.AlignedAlloc(worker, align, size, deny)))
	case kind < 22:
		o.realloc(worker, i, size, deny)
	case kind < 26:
		o.store(i, row)
	default:
		o.free(worker, i)
	}
}

// P13.10, T7: T1 to T6 by what is handed out alone, behind long rows of calls, and when all is given back.
func TestWhatFollows(t *testing.T) {
	for seed := range 120 {
		row := numbers(seed)
		o := newOwner(t, config(seed%4, 1+seed%5), 1+seed%6, []int{0, 1, 2, 8, 64}[seed%5])
		for range 200 + seed {
			o.call(&row)
			o.check()
		}
		o.outside(&row)
		o.stats()
		for len(o.live) > 0 {
			o.free(row.below(o.workers), row.below(len(o.live)))
		}
		o.check()
		o.trim()
		if o.regions != 0 {
			t.Errorf("seed %d: all is given back, and regions are left", seed)
		}
	}
}

// T7: the same of heaps with great regions, all depths, many workers.
func TestWhatFollowsOfGreat(t *testing.T) {
	for seed := range 18 {
		row := numbers(seed)
		o := newOwner(t, config(seed%9, 2), 16, 64)
		for range 300 {
			o.call(&row)
		}
		o.check()
		o.outside(&row)
		o.stats()
		o.trim()
		o.stats()
	}
}

// worst does on a new Shared what T4 says: k R / m calls Malloc(m), and Free of each block whose offset is no multiple of c; then Malloc(r), denied.
func worst(t *testing.T, config api.Config, depth int, k, m, r uint64) {
	t.Helper()
	s := newShared(t, config, 3, depth)
	c := max(r, 4096)
	for i, p := range takes(t, s, 0, m, int(k*regionBytes(config)/m)) {
		if (p-config.Base)%c != 0 {
			frees(t, s, i%3, p)
		}
	}
	wants(t, r, told(s.Malloc(1, r, true)), answer{0, api.ENOMEM})
	if got := s.Stats(); got.H != k*regionBytes(config) || c*got.L != m*got.H {
		t.Errorf("%+v: the size %d over blocks of %d: %+v", config, r, m, got)
	}
}

// T4, T7: both bounds are met with equality, whatever is at hand then.
func TestWorst(t *testing.T) {
	for order := range 4 {
		c := config(order, 3)
		for _, depth := range []int{0, 3, 64} {
			for k := uint64(1); k <= 3; k++ {
				for r := uint64(16); r <= regionBytes(c); r *= 2 {
					m := uint64(16)
					if r == 16 {
						m = 32
					}
					worst(t, c, depth, k, m, r)
					worst(t, c, depth, k, 4096, r)
				}
			}
		}
	}
}
