package arena_test

import (
	"bytes"
	"cmp"
	"slices"
	"testing"

	"croft/api"
	"croft/arena"
	"croft/malloc"
	"croft/oracle"
)

// user is what the user of one arena knows: the chunks and the pieces, by its own calls and their answers, and what it stored in these.
type user struct {
	a      *arena.Arena
	chunk  uint64
	chunks []api.Block
	pieces []piece
	marks  []spot
}

// hasRoom says whether the top has room for a piece, as the pieces tell.
func (u *user) hasRoom(n, align uint64) bool {
	k := book{chunks: u.chunks, pieces: u.pieces}
	_, fits := k.room(n, align)
	return fits
}

// back forgets all that came behind a mark.
func (u *user) back(m spot) { u.chunks, u.pieces = u.chunks[:m.chunks], u.pieces[:m.pieces] }

// house is a heap with what the users of its arenas know, blocks of others, and how many regions there are. Whether ENOMEM comes, and a region, it tells by the live blocks alone; where anything lies it is told, and holds against what must be.
type house struct {
	t       *testing.T
	c       api.Config
	h       *malloc.Heap
	regions int
	users   []*user
	strange []piece // blocks of others, and what these stored
}

func newHouse(t *testing.T, c api.Config, chunks ...uint64) *house {
	t.Helper()
	x := &house{t: t, c: c, h: newHeap(t, c)}
	for _, chunk := range chunks {
		x.users = append(x.users, &user{a: newArena(t, x.h, chunk), chunk: chunk})
	}
	return x
}

// live tells the chunks and the blocks of others.
func (x *house) live() []api.Block {
	var list []api.Block
	for _, u := range x.users {
		list = append(list, u.chunks...)
	}
	for _, b := range x.strange {
		list = append(list, api.Block{P: b.p, Size: b.n})
	}
	return list
}

func (x *house) committed() uint64 { return uint64(x.regions) * regionBytes(x.c) }

// placed holds an answer to a request for a block of size r against T1, T2 and T4; it says whether there is a block.
func (x *house) placed(call string, r uint64, deny bool, got answer) bool {
	x.t.Helper()
	live := x.live()
	if oracle.Stuck(x.c, x.regions, live, r, deny) {
		wants(x.t, call, got, answer{0, api.ENOMEM})
		x.waste(r)
		return false
	}
	wantsError(x.t, call, got.e, api.OK)
	if oracle.NoFit(x.c, x.regions, live, r) {
		x.regions++
	}
	if oracle.Sound(x.c, x.regions, append(live, api.Block{P: got.p, Size: r})) != -1 {
		x.t.Fatalf("%s: %d is no block of %d committed bytes, or meets another", call, got.p, r)
	}
	return true
}

// waste is T4's inequality, asked where a call with the size r answered ENOMEM.
func (x *house) waste(r uint64) {
	x.t.Helper()
	c, m, sum := max(r, 4096), uint64(16), uint64(0)
	if r == 16 {
		m = 32
	}
	live := x.live()
	if !slices.ContainsFunc(live, func(b api.Block) bool { return b.Size < 4096 }) {
		m = 4096
	}
	for _, b := range live {
		sum += b.Size
	}
	if c*sum < m*x.committed() {
		x.t.Fatalf("ENOMEM of the size %d, with %d bytes live of %d", r, sum, x.committed())
	}
}

// alloc asks for a piece, and writes into it.
func (x *house) alloc(u *user, n, align uint64, deny bool, row *numbers) {
	x.t.Helper()
	got := told(u.a.Alloc(n, align, deny))
	if sizeFor(x.c, n, align) == 0 {
		wants(x.t, "Alloc", got, answer{0, api.ETOOBIG})
		return
	}
	n = max(n, 1)
	room := u.hasRoom(n, align)
	if r := sizeFor(x.c, max(n, u.chunk), align); !room {
		if !x.placed("Alloc", r, deny, got) {
			return
		}
		u.chunks = append(u.chunks, api.Block{P: got.p, Size: r})
	}
	wantsError(x.t, "Alloc", got.e, api.OK)
	top := u.chunks[len(u.chunks)-1]
	if got.p%align != 0 || got.p < top.P || got.p+n > top.P+top.Size {
		x.t.Fatalf("Alloc(%d, %d): %d does not lie so in the top %v", n, align, got.p, top)
	}
	for _, other := range u.pieces {
		if got.p < other.p+other.n && other.p < got.p+n {
			x.t.Fatalf("Alloc(%d, %d): %d meets the piece at %d", n, align, got.p, other.p)
		}
	}
	held := row.bytes(int(n))
	wantsError(x.t, "the heap's Write", x.h.Write(got.p, held), api.OK)
	u.pieces = append(u.pieces, piece{got.p, n, held})
}

// others asks for a block past the arenas and writes into it, or frees one of those.
func (x *house) others(row *numbers) {
	x.t.Helper()
	if i := row.below(len(x.strange) + 1); i < len(x.strange) && row.below(3) > 0 {
		wantsError(x.t, "the heap's Free", x.h.Free(x.strange[i].p), api.OK)
		x.strange = slices.Delete(x.strange, i, i+1)
		return
	}
	size, deny := row.size(x.c), row.below(2) == 0
	got, r := told(x.h.Malloc(size, deny)), sizeFor(x.c, size, 1)
	if r == 0 {
		wants(x.t, "the heap's Malloc", got, answer{0, api.ETOOBIG})
	} else if x.placed("the heap's Malloc", r, deny, got) {
		held := row.bytes(int(r))
		wantsError(x.t, "the heap's Write", x.h.Write(got.p, held), api.OK)
		x.strange = append(x.strange, piece{got.p, r, held})
	}
}

// store writes into a piece, up to its end.
func (x *house) store(u *user, row *numbers) {
	x.t.Helper()
	if len(u.pieces) == 0 {
		return
	}
	one := oneOf(row, u.pieces...)
	at := row.below(int(one.n))
	copy(one.held[at:], row.bytes(int(one.n)-at))
	wantsError(x.t, "the heap's Write", x.h.Write(one.p+uint64(at), one.held[at:]), api.OK)
}

// release takes an arena back to one of its marks that stand.
func (x *house) release(u *user, row *numbers) {
	x.t.Helper()
	if len(u.marks) == 0 {
		return
	}
	at := row.below(len(u.marks))
	releases(x.t, u.a, u.marks[at].number)
	u.back(u.marks[at])
	u.marks = u.marks[:at]
}

// trim is T6: just the regions at the top go that meet no block.
func (x *house) trim() {
	x.t.Helper()
	want := 0
	meets := func(b api.Block) bool { return int((b.P-x.c.Base)/regionBytes(x.c)) == x.regions-1 }
	for ; x.regions > 0 && !slices.ContainsFunc(x.live(), meets); x.regions-- {
		want++
	}
	if got := x.h.Trim(); got != want {
		x.t.Fatalf("the heap's Trim: %d, not %d", got, want)
	}
}

// check: the heap's live blocks are the chunks and those of others, and H is as T2 says; each arena has just its chunks; all that stands holds what was stored.
func (x *house) check() {
	x.t.Helper()
	rising := func(one, other api.Block) int { return cmp.Compare(one.P, other.P) }
	wantsLive(x.t, x.h, slices.SortedFunc(slices.Values(x.live()), rising)...)
	if got := x.h.Stats().H; got != x.committed() {
		x.t.Fatalf("H is %d, not %d", got, x.committed())
	}
	all := slices.Clone(x.strange)
	for _, u := range x.users {
		wantsChunks(x.t, u.a, u.chunks...)
		sum := uint64(0)
		for _, one := range u.pieces {
			sum += one.n
		}
		wantsUsed(x.t, u.a, sum)
		if sum > u.a.Held() {
			x.t.Fatalf("%d bytes are used, and %d held", sum, u.a.Held())
		}
		all = append(all, u.pieces...)
	}
	for _, one := range all {
		if got, e := x.h.Read(one.p, one.n); e != api.OK || !bytes.Equal(got, one.held) {
			x.t.Fatalf("the %d bytes at %d don't hold what was stored: %v", one.n, one.p, e)
		}
	}
}

func (x *house) call(row *numbers) {
	x.t.Helper()
	u := oneOf(row, x.users...)
	switch kind := row.below(50); {
	case kind < 28:
		n := row.size(x.c) * uint64(min(1, row.below(20))) // 0 now and then
		x.alloc(u, n, row.align(x.c), row.below(3) == 0, row)
	case kind < 33:
		u.marks = append(u.marks, spot{u.a.Mark(), len(u.chunks), len(u.pieces)})
	case kind < 36:
		x.release(u, row)
	case kind == 36:
		u.a.Reset()
		u.back(spot{})
		u.marks = nil
	case kind == 37:
		x.trim()
	case kind < 41:
		x.store(u, row)
	default:
		x.others(row)
	}
}

// P15.5, T1 to T6: behind long rows of calls of several arenas, others using the heap beside, and when all is given back.
func TestWhatFollows(t *testing.T) {
	for seed := range 160 {
		row := numbers(seed)
		c := config(seed%6, 1+seed%5)
		var chunks []uint64
		for range 1 + seed%3 {
			chunks = append(chunks, drawnChunk(&row, c))
		}
		x := newHouse(t, c, chunks...)
		for range 200 {
			x.call(&row)
			x.check()
		}
		for _, u := range x.users {
			u.a.Reset()
			u.back(spot{})
			x.check()
		}
		for _, b := range x.strange {
			wantsError(t, "the heap's Free", x.h.Free(b.p), api.OK)
		}
		x.strange = nil
		x.check()
		x.trim()
		if x.regions != 0 {
			t.Errorf("seed %d: all is given back, and regions are left", seed)
		}
	}
}

// worst does what T4 says, each block being the one chunk of an arena: k R / m calls Alloc(m), and Reset of each arena whose chunk's offset is no multiple of c; then Alloc(r), denied.
func worst(t *testing.T, config api.Config, k, m, r uint64) {
	t.Helper()
	h := newHeap(t, config)
	c := max(r, 4096)
	var all []*arena.Arena
	for range k * regionBytes(config) / m {
		a := newArena(t, h, m)
		takes(t, a, 1, 1)
		all = append(all, a)
	}
	for _, a := range all {
		if (a.Chunks()[0].P-config.Base)%c != 0 {
			a.Reset()
		}
	}
	refuses(t, newArena(t, h, 1), h, r, 1, true, api.ENOMEM)
	refuses(t, newArena(t, h, r), h, 1, 1, true, api.ENOMEM)
	if got := h.Stats(); got.H != k*regionBytes(config) || c*got.L != m*got.H {
		t.Errorf("%+v: the size %d over blocks of %d: %+v", config, r, m, got)
	}
}

// T4: both bounds are met with equality.
func TestWorst(t *testing.T) {
	for order := range 4 {
		c := config(order, 3)
		for k := uint64(1); k <= 3; k++ {
			for r := uint64(16); r <= regionBytes(c); r *= 2 {
				m := uint64(16)
				if r == 16 {
					m = 32
				}
				worst(t, c, k, m, r)
				worst(t, c, k, 4096, r)
			}
		}
	}
}
