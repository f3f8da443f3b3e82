package dict_test

import (
	"bytes"
	"maps"
	"slices"
	"strconv"
	"testing"

	"croft/api"
	"croft/dict"
	"croft/malloc"
	"croft/oracle"
)

// holder is a table, and what it must hold: which blocks are its entries, by their keys, and its row.
type holder struct {
	x      *dict.Table
	values map[string]string
	lies   map[string]api.Block
	row    api.Block // of no bytes where there is none
}

// house is a heap with the blocks of some tables, blocks of others, and how many regions there are. Whether ENOMEM comes, and a region, it tells by the live blocks alone; where a block lies it is told by what is live behind a call, and holds against what must be.
type house struct {
	t       *testing.T
	c       api.Config
	h       *malloc.Heap
	regions int
	live    []api.Block
	tables  []*holder
	strange map[api.Block][]byte
}

func newHouse(t *testing.T, c api.Config) *house {
	t.Helper()
	return &house{t: t, c: c, h: newHeap(t, c), strange: map[api.Block][]byte{}}
}

// news tells the blocks that are live and were not.
func (x *house) news() []api.Block {
	return slices.DeleteFunc(x.h.Live(), func(b api.Block) bool { return slices.Contains(x.live, b) })
}

// comes holds a request for a block of size r against T1, T2 and T4: whether it comes, and by a region more. Of several new blocks is says which one it is.
func (x *house) comes(what string, r uint64, deny bool, is func(api.Block) bool) (api.Block, bool) {
	x.t.Helper()
	if oracle.Stuck(x.c, x.regions, x.live, r, deny) {
		x.waste(r)
		return api.Block{}, false
	}
	if oracle.NoFit(x.c, x.regions, x.live, r) {
		x.regions++
	}
	for _, b := range x.news() {
		if b.Size == r && is(b) {
			x.live = append(x.live, b)
			if oracle.Sound(x.c, x.regions, x.live) != -1 {
				x.t.Fatalf("%s: %v is not in committed memory, or meets another", what, b)
			}
			return b, true
		}
	}
	x.t.Fatalf("%s: no new block of %d bytes", what, r)
	return api.Block{}, false
}

// goes takes a block off the live ones.
func (x *house) goes(b api.Block) {
	x.live = slices.DeleteFunc(x.live, func(other api.Block) bool { return other == b })
}

// waste is T4's inequality, asked where a request of the size r is refused.
func (x *house) waste(r uint64) {
	x.t.Helper()
	c, m, sum := max(r, 4096), uint64(16), uint64(0)
	if r == 16 {
		m = 32
	}
	if !slices.ContainsFunc(x.live, func(b api.Block) bool { return b.Size < 4096 }) {
		m = 4096
	}
	for _, b := range x.live {
		sum += b.Size
	}
	if c*sum < m*x.committed() {
		x.t.Fatalf("a block of %d bytes is refused, with %d bytes live of %d", r, sum, x.committed())
	}
}

func (x *house) committed() uint64 { return uint64(x.regions * regionBytes(x.c)) }

func anyBlock(api.Block) bool { return true }

// begins makes a table.
func (x *house) begins(deny bool) {
	x.t.Helper()
	table, e := dict.New(x.h, deny)
	row, is := x.comes("New", 64, deny, anyBlock)
	if is != (e == api.OK) {
		x.t.Fatalf("New: %v", e)
	}
	if is {
		x.tables = append(x.tables, &holder{table, map[string]string{}, map[string]api.Block{}, row})
	}
}

// sets sets a key. Keys have bytes here: so an entry is known by its words, whatever else is new.
func (x *house) sets(o *holder, key, value string, deny bool) {
	x.t.Helper()
	got := set(o.x, key, value, deny)
	r := sizeFor(x.c, 40+len(key)+len(value))
	old, there := o.values[key]
	if there && len(old) == len(value) {
		wantsError(x.t, "Set", got, api.OK)
		o.values[key] = value
		return
	}
	if r == 0 {
		wantsError(x.t, "Set", got, api.ETOOBIG)
		return
	}
	entry, is := x.comes("Set", r, deny, func(b api.Block) bool {
		text, _ := x.h.Read(b.P+40, uint64(len(key)))
		return string(text) == key && word(x.t, x.h, b.P+24) == uint64(len(key)) && word(x.t, x.h, b.P+32) == uint64(len(value))
	})
	if !is {
		wantsError(x.t, "Set", got, api.ENOMEM)
		return
	}
	wantsError(x.t, "Set", got, api.OK)
	if there {
		x.goes(o.lies[key])
	}
	o.values[key], o.lies[key] = value, entry
	if n := o.row.Size / 8; !there && len(o.values) > int(n) && 16*n <= uint64(regionBytes(x.c)) {
		if row, is := x.comes("the row", 16*n, deny, anyBlock); is {
			x.goes(o.row)
			o.row = row
		}
	}
}

func (x *house) removes(o *holder, key string) {
	x.t.Helper()
	_, there := o.values[key]
	if o.x.Delete([]byte(key)) != there {
		x.t.Fatalf("Delete(%s): %v", short(key), !there)
	}
	x.goes(o.lies[key])
	delete(o.values, key)
	delete(o.lies, key)
}

func (x *house) drops(o *holder) {
	o.x.Drop()
	x.goes(o.row)
	for _, b := range o.lies {
		x.goes(b)
	}
	x.tables = slices.DeleteFunc(x.tables, func(other *holder) bool { return other == o })
}

// others asks for a block past the tables and writes into it, or frees one of those.
func (x *house) others(row *numbers) {
	x.t.Helper()
	if len(x.strange) > 0 && row.below(2) == 0 {
		b := oneOf(row, slices.SortedFunc(maps.Keys(x.strange), rising)...)
		wantsError(x.t, "the heap's Free", x.h.Free(b.P), api.OK)
		x.goes(b)
		delete(x.strange, b)
		return
	}
	r, deny := uint64(16)<<row.below(9+x.c.Order), row.below(2) == 0
	_, e := x.h.Malloc(r, deny)
	b, is := x.comes("the heap's Malloc", r, deny, anyBlock)
	if is != (e == api.OK) {
		x.t.Fatalf("the heap's Malloc(%d): %v", r, e)
	}
	if is {
		x.strange[b] = []byte(row.text(int(r)))
		wantsError(x.t, "the heap's Write", x.h.Write(b.P, x.strange[b]), api.OK)
	}
}

// trims is T6: just the regions at the top go that meet no block.
func (x *house) trims() {
	x.t.Helper()
	want := 0
	meets := func(b api.Block) bool { return int(b.P-x.c.Base)/regionBytes(x.c) == x.regions-1 }
	for ; x.regions > 0 && !slices.ContainsFunc(x.live, meets); x.regions-- {
		want++
	}
	if got := x.h.Trim(); got != want {
		x.t.Fatalf("the heap's Trim: %d, not %d", got, want)
	}
}

// check: the heap's live blocks are the tables' and those of others, H is as T2 says, and all that stands holds what was stored.
func (x *house) check() {
	x.t.Helper()
	slices.SortFunc(x.live, rising)
	wantsLive(x.t, x.h, x.live...)
	if got := x.h.Stats().H; got != x.committed() {
		x.t.Fatalf("H is %d, not %d", got, x.committed())
	}
	for b, want := range x.strange {
		if got, e := x.h.Read(b.P, b.Size); e != api.OK || !bytes.Equal(got, want) {
			x.t.Fatalf("the block of others at %d does not hold what was stored: %v", b.P, e)
		}
	}
	for _, o := range x.tables {
		if o.x.Len() != len(o.values) {
			x.t.Fatalf("Len: %d, not %d", o.x.Len(), len(o.values))
		}
		for key, value := range o.values {
			wantsGet(x.t, o.x, key, value)
		}
	}
}

func (x *house) call(row *numbers) {
	x.t.Helper()
	deny := row.below(3) == 0
	if len(x.tables) == 0 {
		x.begins(deny)
		return
	}
	o, key := oneOf(row, x.tables...), strconv.Itoa(row.below(30))
	switch kind := row.below(60); {
	case kind < 30:
		x.sets(o, key, row.text(oneOf(row, 0, 1, 2, 5, row.below(200), row.below(3000), row.below(20000))), deny)
	case kind < 40:
		x.removes(o, key)
	case kind < 42 && len(x.tables) < 3:
		x.begins(deny)
	case kind < 43:
		x.drops(o)
	case kind < 45:
		x.trims()
	default:
		x.others(row)
	}
}

// T1 to T6: behind long rows of calls of several tables, others using the heap beside, and when all is given back.
func TestHeapKeepsItsPromises(t *testing.T) {
	for seed := range 90 {
		row := numbers(seed)
		x := newHouse(t, config(seed%6, 1+seed%5))
		for range 150 {
			x.call(&row)
			x.check()
		}
		for len(x.tables) > 0 {
			x.drops(x.tables[0])
			x.check()
		}
		for b := range x.strange {
			wantsError(t, "the heap's Free", x.h.Free(b.P), api.OK)
			x.goes(b)
		}
		clear(x.strange)
		x.check()
		x.trims()
		if x.regions != 0 {
			t.Errorf("seed %d: all is given back, and regions are left", seed)
		}
	}
}

// worst does what T4 says on a heap that had a table: k R / m blocks, of which those go whose offset is no multiple of c; then a Set whose entry has r bytes, denied.
func worst(t *testing.T, config api.Config, k, m, r uint64) {
	t.Helper()
	x, h := begin(t, config)
	x.Drop()
	h.Trim()
	c := max(r, 4096)
	var list []uint64
	for range k * uint64(regionBytes(config)) / m {
		list = append(list, takes(t, h, m))
	}
	for _, p := range list {
		if (p-config.Base)%c != 0 {
			wantsError(t, "the heap's Free", h.Free(p), api.OK)
		}
	}
	wantsError(t, "Set", set(x, "key", long("", int(r)-43), true), api.ENOMEM)
	if got := h.Stats(); got.H != k*uint64(regionBytes(config)) || c*got.L != m*got.H {
		t.Errorf("%+v: the size %d over blocks of %d: %+v", config, r, m, got)
	}
	wantsAll(t, x)
}

// T4: both bounds are met with equality, by a table's request.
func TestWorst(t *testing.T) {
	for order := range 4 {
		c := config(order, 3)
		for k := uint64(1); k <= 3; k++ {
			for r := uint64(64); r <= uint64(regionBytes(c)); r *= 2 {
				worst(t, c, k, 16, r)
				worst(t, c, k, 4096, r)
			}
		}
	}
}

// P19.7: long rows of calls of all names against a map of the language: whatever the order of calls, a refused Set changes nothing.
func TestLikeMap(t *testing.T) {
	for seed := range 60 {
		row := numbers(seed)
		x, h := begin(t, config(seed%4, 1+seed%4))
		want := map[string]string{}
		for range 600 {
			key, value := row.text(row.below(2)), row.text(row.below(200))
			switch kind := row.below(100); {
			case kind < 60:
				if set(x, key, value, row.below(3) == 0) == api.OK {
					want[key] = value
				}
			case kind < 99:
				_, is := want[key]
				if x.Delete([]byte(key)) != is {
					t.Fatalf("Delete(%q): %v", key, !is)
				}
				delete(want, key)
			default:
				x.Drop()
				clear(want)
			}
			if got, is := x.Get([]byte(key)); string(got) != want[key] || is != has(want, key) {
				t.Fatalf("Get(%q): %q, %v", key, got, is)
			}
			if x.Len() != len(want) {
				t.Fatalf("Len: %d, not %d", x.Len(), len(want))
			}
		}
		for _, one := range all(x) {
			if !has(want, one.key) || want[one.key] != one.value {
				t.Fatalf("All gives %q", one)
			}
		}
		x.Drop()
		wantsLive(t, h)
	}
}

func has(m map[string]string, key string) bool {
	_, is := m[key]
	return is
}
