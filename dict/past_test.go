package dict_test

import (
	"bytes"
	"reflect"
	"testing"

	"croft/api"
	"croft/dict"
	"croft/malloc"
)

// past does something to a heap that only a table may do: it frees one of the table's blocks, or changes its size, or writes into it: anything, a word that leads to a block, a length.
func past(h *malloc.Heap, row numbers) {
	live := h.Live()
	if len(live) == 0 {
		return
	}
	one, other := oneOf(&row, live...), oneOf(&row, live...)
	at := one.P + uint64(8*row.below(6))
	switch row.below(12) {
	case 0:
		h.Free(one.P)
	case 1:
		h.Realloc(one.P, uint64(row.below(300)), false)
	case 2:
		h.Write(one.P, []byte(row.text(row.below(40))))
	case 3:
		h.StoreWord(at, oneOf(&row, 0, 1, 40, most-39, most-40, most, 1<<63, 1<<32))
	case 4:
		h.Trim()
	case 5:
		h.StoreWord(at, other.P+uint64(row.below(3)))
	default:
		h.StoreWord(at, other.P)
	}
}

// R1, R5, R6: who frees a table's blocks past it, or writes into them, is promised that each call ends and none panics, and that the same calls answer the same: ranges in which other calls are made, too.
func TestPastTheTable(t *testing.T) {
	for seed := range 400 {
		row := numbers(seed)
		c := config(seed%4, 2)
		x, h := begin(t, c)
		other, twin := begin(t, c)
		for n := range 150 {
			if n > 30 && row.below(4) == 0 {
				past(h, row)
				past(twin, row)
			}
			a := draw(&row, c)
			if got, want := does(x, a), does(other, a); !reflect.DeepEqual(got, want) {
				t.Fatalf("%d: %v, and %v", a.kind, got, want)
			}
		}
		if !reflect.DeepEqual(h.Image(), twin.Image()) {
			t.Fatal("two heaps differ behind the same calls")
		}
	}
}

// spoils makes a table of five keys, three of which have one place, and lets something be done past it; then every call must end.
func spoils(t *testing.T, do func(h *malloc.Heap, base uint64)) {
	t.Helper()
	list := append(keysAt(8, 2, 3), keysAt(8, 5, 2)...)
	again := func() (*dict.Table, *malloc.Heap) {
		x, h := begin(t, config(2, 4))
		setsAll(t, x, list...) // the entries lie at base + 64, + 128 ..
		do(h, h.Config().Base)
		return x, h
	}
	calls := []func(*dict.Table){
		func(x *dict.Table) { x.Drop() },
		func(x *dict.Table) { all(x) },
		func(x *dict.Table) { x.Set([]byte("new"), nil, false) },
		func(x *dict.Table) { setsAllAnyway(x, keys(60)...) },
		func(x *dict.Table) { setsAllAnyway(x, list...) },
		func(x *dict.Table) {
			for _, key := range list {
				x.Get([]byte(key))
				x.Set([]byte(key), []byte("of another length"), true)
				x.Delete([]byte(key))
			}
		},
		func(x *dict.Table) {
			for key := range x.All() {
				x.Set(key, key, false)
			}
		},
		func(x *dict.Table) {
			for key := range x.All() {
				x.Delete(key)
			}
		},
	}
	for _, first := range calls {
		for _, second := range calls {
			x, _ := again()
			first(x)
			second(x)
			x.Len()
			x.Drop()
			if x.Len() != 0 || len(all(x)) != 0 {
				t.Fatal("a dropped table is not empty")
			}
			setsAll(t, x, "works", "again")
			wantsKeys(t, x, "works", "again")
		}
	}
}

func setsAllAnyway(x *dict.Table, keys ...string) {
	for _, key := range keys {
		x.Set([]byte(key), []byte("+"), false)
	}
}

// R1, R6: each word of the row and of each entry is written over: by what leads to another entry, to itself, to the row, nowhere; lengths that are too great.
func TestEachWordWritten(t *testing.T) {
	for at := uint64(0); at < 6*64; at += 8 {
		for _, block := range []uint64{0, 1, 2, 5, 9} {
			spoils(t, func(h *malloc.Heap, base uint64) { h.StoreWord(base+at, base+64*block) })
		}
		for _, v := range []uint64{0, 25, 1 << 63, most - 40, most} {
			spoils(t, func(h *malloc.Heap, base uint64) { h.StoreWord(base+at, v) })
		}
	}
}

// R1, R6: rings, in the lists of a place and in the order of coming, whose links lead back and forth.
func TestRings(t *testing.T) {
	for one := uint64(1); one <= 5; one++ {
		for other := uint64(1); other <= 5; other++ {
			spoils(t, func(h *malloc.Heap, base uint64) {
				p, q := base+64*one, base+64*other
				h.StoreWord(p, q)
				h.StoreWord(q, p)
			})
			spoils(t, func(h *malloc.Heap, base uint64) {
				p, q := base+64*one, base+64*other
				h.StoreWord(p+16, q)
				h.StoreWord(q+8, p)
			})
			spoils(t, func(h *malloc.Heap, base uint64) {
				p, q := base+64*one, base+64*other
				h.StoreWord(p, q)
				h.StoreWord(q, p)
				h.StoreWord(p+8, q)
				h.StoreWord(p+16, q)
				h.StoreWord(q+8, p)
				h.StoreWord(q+16, p)
			})
		}
	}
}

// R1, R6: blocks are freed past the table, each, two, all of them; what comes in their place is others'.
func TestBlocksFreed(t *testing.T) {
	for mask := uint64(1); mask < 64; mask++ {
		frees := func(h *malloc.Heap, base uint64) {
			for i := range uint64(6) {
				if mask>>i&1 == 1 {
					h.Free(base + 64*i)
				}
			}
		}
		spoils(t, frees)
		spoils(t, func(h *malloc.Heap, base uint64) { frees(h, base); h.Trim() })
	}
}

// wantsUntouched asks that blocks of others are live, and hold what they did, whatever is asked of a table.
func wantsUntouched(t *testing.T, x *dict.Table, h *malloc.Heap, row *numbers, held map[uint64][]byte) {
	t.Helper()
	for range 40 {
		if a := draw(row, h.Config()); a.kind < 88 || a.kind > 89 || row.below(4) == 0 {
			does(x, a)
		}
	}
	x.Drop()
	for p, want := range held {
		if got, e := h.Read(p, uint64(len(want))); e != api.OK || !bytes.Equal(got, want) {
			t.Fatalf("the block of others at %d: %v", p, e)
		}
	}
}

// R6: entries are freed past the table, and others get their blocks: its calls don't touch these.
func TestEntriesTaken(t *testing.T) {
	for mask := uint64(1); mask < 32; mask++ {
		for seed := range 20 {
			row := numbers(seed)
			x, h := begin(t, config(2, 4))
			setsAll(t, x, "k1", "k2", "k3", "k4", "k5")
			held := map[uint64][]byte{}
			for i := range uint64(5) {
				if p := h.Config().Base + 64*(i+1); mask>>i&1 == 1 {
					wantsError(t, "the heap's Free", h.Free(p), api.OK)
					if got := takes(t, h, 64); got != p {
						t.Fatalf("%d comes for %d", got, p)
					}
					held[p] = make([]byte, 64)
					if seed%2 == 0 {
						copy(held[p], row.text(64))
					}
					h.Write(p, held[p])
				}
			}
			wantsUntouched(t, x, h, &row, held)
		}
	}
}

// R6: the last entry is freed past the table, and others get its block: no key can be put behind it till the table is dropped.
func TestLastTaken(t *testing.T) {
	x, h := begin(t, config(2, 4))
	setsAll(t, x, "k1", "k2")
	p := h.Config().Base + 128
	wantsError(t, "the heap's Free", h.Free(p), api.OK)
	refusesSet(t, x, h, "k3", "", false, api.EBROKEN)
	takes(t, h, 64)
	h.Write(p, make([]byte, 64))
	refusesSet(t, x, h, "k3", "", false, api.EBROKEN)
	x.Drop()
	setsAll(t, x, "k3")
	wantsKeys(t, x, "k3")
	wantsWords(t, "others", h, p, 0, 0, 0, 0, 0, 0, 0, 0)
}

// R6: the row is freed past the table, and others get its page: nothing is found any more, and no key can come till the table is dropped.
func TestRowTaken(t *testing.T) {
	x, h := begin(t, config(2, 4))
	sets(t, x, "k1", long("", 50))
	sets(t, x, "k2", long("", 50))
	p := h.Config().Base
	wantsError(t, "the heap's Free", h.Free(p), api.OK)
	refusesSet(t, x, h, "k3", "", false, api.EBROKEN)
	if got := takes(t, h, 4096); got != p {
		t.Fatalf("%d comes for %d", got, p)
	}
	want := bytes.Repeat([]byte{0, 0x10, 0, 0, 1, 0, 0, 0}, 512) // each word leads to the first entry
	h.Write(p, want)
	refusesSet(t, x, h, "k1", "", false, api.EBROKEN)
	wantsNone(t, x, h, "k1", "k2")
	x.Drop()
	setsAll(t, x, "k3")
	wantsKeys(t, x, "k3")
	got, _ := h.Read(p, 4096)
	same(t, "others", got, want)
}

// R6: words of a table lead to blocks of others, which hold anything: its calls don't touch these.
func TestOthersUntouched(t *testing.T) {
	for seed := range 600 {
		row := numbers(seed)
		x, h := begin(t, config(2, 4))
		setsAll(t, x, keys(1+row.below(10))...)
		mine := h.Live()
		held := map[uint64][]byte{}
		for range 6 {
			b := api.Block{Size: uint64(16) << row.below(6)}
			b.P = takes(t, h, b.Size)
			held[b.P] = []byte(row.text(int(b.Size)))
			if row.below(2) == 0 {
				clear(held[b.P])
			}
			h.Write(b.P, held[b.P])
		}
		for _, b := range h.Live() {
			if _, is := held[b.P]; !is || row.below(3) > 0 {
				continue
			}
			h.StoreWord(oneOf(&row, mine...).P+uint64(8*row.below(3)), b.P+uint64(16*row.below(2)))
		}
		wantsUntouched(t, x, h, &row, held)
	}
}
