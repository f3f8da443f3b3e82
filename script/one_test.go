package script_test

import (
	"bytes"
	"testing"

	"croft/api"
	"croft/malloc"
	"croft/script"
)

// P12.1: a Ref that tells no answer is refused, whatever the Op is and whatever else the call holds, and nothing is done.
func TestRefs(t *testing.T) {
	h, _ := twins(t, example(), 3, 12)
	live := h.Live()[0].P
	for _, answers := range [][]api.Answer{nil, values(live), values(live, 0, live)} {
		count := len(answers)
		for _, ref := range []int{count + 1, count + 2, -1, -count - 1, 4096, 4097, 1<<63 - 1, -1 << 63} {
			for _, op := range append(ops(), noOps()...) {
				wantsRefused(t, h, api.Call{Op: op, Ref: ref, P: live, A: 1, B: 1}, answers, api.EINVAL)
				wantsRefused(t, h, api.Call{Op: op, Ref: ref, A: 1 << 20, Data: make([]byte, 65537)}, answers, api.EINVAL)
			}
		}
	}
}

// P12.1: the address is P; or that of any of the answers, and P behind it.
func TestAddresses(t *testing.T) {
	h := newHeap(t, example())
	var answers []api.Answer
	for range 4096 / 16 {
		answers = append(answers, script.One(h, api.Call{Op: api.OpMalloc, A: 16}, answers))
	}
	for i, a := range answers {
		want := uint64(65536 + 16*i)
		wantsAnswer(t, i, a, api.Answer{V: want})
		h.StoreWord(want, uint64(i)*0x0101)
		for _, c := range []api.Call{{Ref: i + 1}, {P: want}, {Ref: 1, P: want - 65536}, {Ref: len(answers), P: want - answers[255].V}} {
			c.Op = api.OpLoadWord
			wantsAnswer(t, c, script.One(h, c, answers), api.Answer{V: uint64(i) * 0x0101})
		}
		c := api.Call{Op: api.OpLoad, Ref: i + 1, P: 1}
		wantsAnswer(t, c, script.One(h, c, answers), api.Answer{V: uint64(i)})
	}
}

// P12.1: an answer of an error tells 0, whatever else it holds; P is put to it.
func TestRefToErrors(t *testing.T) {
	h := newHeap(t, example())
	p, _ := h.Malloc(16, false)
	for _, e := range []api.Errno{api.EINVAL, api.ENOMEM, api.EFAULT, api.ESTATE, -1, 99} {
		answers := []api.Answer{{E: e}, {E: e, V: p, Data: []byte{1}}}
		for ref := range 2 {
			c := api.Call{Op: api.OpUsable, Ref: ref + 1}
			wantsRefused(t, h, c, answers, api.EINVAL)
			c.P = p
			wantsAnswer(t, c, script.One(h, c, answers), api.Answer{V: 16})
			wantsRefused(t, h, api.Call{Op: api.OpLoad, Ref: ref + 1}, answers, api.EFAULT)
			c = api.Call{Op: api.OpFree, Ref: ref + 1}
			wantsAnswer(t, c, script.One(h, c, answers), api.Answer{})
		}
		if size, e := h.UsableSize(p); size != 16 || e != api.OK {
			t.Fatal("Free of address 0 gave a block back")
		}
	}
	c := api.Call{Op: api.OpRealloc, Ref: 1, A: 16}
	wantsAnswer(t, c, script.One(h, c, []api.Answer{{E: api.ENOMEM, V: p}}), api.Answer{V: p + 16})
}

// P12.1: what an answer tells is taken for an address, whatever it is; an answer without V tells 0.
func TestRefToOtherValues(t *testing.T) {
	h := newHeap(t, example())
	calls := []api.Call{
		{Op: api.OpMalloc, A: 32},
		{Op: api.OpUsable, Ref: 1},
		{Op: api.OpStoreWord, Ref: 1, A: 65536},
		{Op: api.OpLoadWord, Ref: 1},
		{Op: api.OpUsable, Ref: 4},            // the word is the block's address
		{Op: api.OpUsable, Ref: 2, P: 65504},  // 32, the size, and this is so too
		{Op: api.OpUsable, Ref: 3, P: 65536},  // a store tells 0
		{Op: api.OpStats},                     // and so do Stats
		{Op: api.OpUsable, Ref: 8, P: 65536},  //
		{Op: api.OpTrim},                      // no region goes: 0
		{Op: api.OpUsable, Ref: 10, P: 65536}, //
		{Op: api.OpRead, Ref: 1, A: 3},        // it has Data, and 0
		{Op: api.OpUsable, Ref: 12, P: 65536}, //
		{Op: api.OpUsable, Ref: 2},            // 32 is no address
	}
	want := []api.Answer{
		{V: 65536}, {V: 32}, {}, {V: 65536}, {V: 32}, {V: 32}, {V: 32},
		{Stats: api.Stats{H: 8192, L: 32, Blocks: 1, FreePages: 1}}, {V: 32},
		{}, {V: 32}, {Data: []byte{0, 0, 1}}, {V: 32}, {E: api.EINVAL},
	}
	if got := played(t, h, calls); !sameAnswers(got, want) {
		t.Errorf("%+v, not %+v", got, want)
	}
}

// P12.1: the sum is taken modulo 2^64.
func TestSumsWrapRound(t *testing.T) {
	h := newHeap(t, example())
	p, _ := h.Malloc(16, false)
	for _, v := range []uint64{p, p + 1, p + 4096, 1 << 63, 1<<64 - 1, p - 1, 0} {
		c := api.Call{Op: api.OpUsable, Ref: 1, P: p - v}
		wantsAnswer(t, c, script.One(h, c, values(v)), api.Answer{V: 16})
		c.P++
		wantsRefused(t, h, c, values(v), api.EINVAL)
	}
	c := api.Call{Op: api.OpFree, Ref: 1, P: -p}
	wantsAnswer(t, "Free of a sum of 0", script.One(h, c, values(p)), api.Answer{})
	if len(h.Live()) != 1 {
		t.Error("Free of a sum of 0 gave a block back")
	}
}

// P12.2: an Op that is none is refused, with every kind of address.
func TestNoOps(t *testing.T) {
	h, _ := twins(t, example(), 5, 12)
	live := h.Live()[0].P
	for _, op := range noOps() {
		wantsRefused(t, h, api.Call{Op: op}, nil, api.EINVAL)
		wantsRefused(t, h, api.Call{Op: op, P: live, A: 1, B: 1, Data: []byte{1}}, nil, api.EINVAL)
		wantsRefused(t, h, api.Call{Op: op, Ref: 1, A: 65537, Data: make([]byte, 65537)}, values(live), api.EINVAL)
	}
}

// P12.2: Read tells at most MaxData bytes; that comes ahead of what the address is.
func TestReadLimit(t *testing.T) {
	h := newHeap(t, config(5, 1))
	p, _ := h.Malloc(1<<17, false)
	row := numbers(1)
	held := row.bytes(1 << 17)
	h.Write(p, held)
	for _, n := range []int{0, 1, 65535, 65536} {
		c := api.Call{Op: api.OpRead, P: p + 7, A: uint64(n)}
		wantsAnswer(t, n, script.One(h, c, nil), api.Answer{Data: held[7 : 7+n]})
	}
	for _, n := range []uint64{65537, 65538, 1 << 17, 1 << 32, 1<<32 + 1, 1 << 63, 1<<64 - 1} {
		for _, at := range []uint64{p, p + 1<<17, 0, 1<<64 - 1} {
			wantsRefused(t, h, api.Call{Op: api.OpRead, P: at, A: n}, nil, api.ELIMIT)
		}
		wantsRefused(t, h, api.Call{Op: api.OpRead, Ref: 1, P: p, A: n}, nil, api.EINVAL)
	}
	wantsRefused(t, h, api.Call{Op: api.OpRead, P: p + 1<<16 + 1, A: 65536}, nil, api.EFAULT)
	c := api.Call{Op: api.OpRead, P: 3}
	wantsAnswer(t, "no bytes, whatever the address", script.One(h, c, nil), api.Answer{})
}

// P12.2: Write takes at most MaxData bytes, likewise.
func TestWriteLimit(t *testing.T) {
	h := newHeap(t, config(5, 1))
	p, _ := h.Calloc(1, 1<<17, false)
	row := numbers(2)
	for _, n := range []int{1, 65535, 65536} {
		c := api.Call{Op: api.OpWrite, P: p + 9, Data: row.bytes(n)}
		wantsAnswer(t, n, script.One(h, c, nil), api.Answer{})
		got, _ := h.Read(p, 1<<17)
		if !bytes.Equal(got[9:9+n], c.Data) || got[8] != 0 || n == 65536 && got[9+n] != 0 {
			t.Fatalf("Write of %d bytes: others are there", n)
		}
	}
	for _, n := range []int{65537, 65538, 1 << 17} {
		for _, at := range []uint64{p, p + 1<<17, 0, 1<<64 - 1} {
			wantsRefused(t, h, api.Call{Op: api.OpWrite, P: at, Data: row.bytes(n)}, nil, api.ELIMIT)
		}
		wantsRefused(t, h, api.Call{Op: api.OpWrite, Ref: -1, P: p, Data: row.bytes(n)}, nil, api.EINVAL)
	}
	wantsRefused(t, h, api.Call{Op: api.OpWrite, P: p + 1<<16 + 1, Data: row.bytes(65536)}, nil, api.EFAULT)
	ahead := h.Image()
	wantsAnswer(t, "no bytes, whatever the address", script.One(h, api.Call{Op: api.OpWrite, P: 3}, nil), api.Answer{})
	if !sameImage(h.Image(), ahead) {
		t.Error("Write of no bytes has changed something")
	}
}

// P12.2: Store takes the lowest byte of A, StoreWord all of it.
func TestStores(t *testing.T) {
	h := newHeap(t, example())
	p, _ := h.Calloc(1, 16, false)
	for _, v := range append(edges(), 0x1ff, 0xabcdef0123456789) {
		c := api.Call{Op: api.OpStore, P: p + 8, A: v}
		wantsAnswer(t, c, script.One(h, c, nil), api.Answer{})
		wantsAnswer(t, c, script.One(h, api.Call{Op: api.OpLoad, P: p + 8}, nil), api.Answer{V: v % 256})
		wantsAnswer(t, c, script.One(h, api.Call{Op: api.OpLoadWord, P: p + 8}, nil), api.Answer{V: v % 256})
		c = api.Call{Op: api.OpStoreWord, P: p, A: v}
		wantsAnswer(t, c, script.One(h, c, nil), api.Answer{})
		wantsAnswer(t, c, script.One(h, api.Call{Op: api.OpLoadWord, P: p}, nil), api.Answer{V: v})
		wantsAnswer(t, c, script.One(h, api.Call{Op: api.OpLoad, P: p + 7}, nil), api.Answer{V: v >> 56})
	}
}

// P12.2: Deny is taken where a region may come, and there alone.
func TestDenied(t *testing.T) {
	for _, c := range []api.Call{
		{Op: api.OpMalloc, A: 1}, {Op: api.OpCalloc, A: 1, B: 1}, {Op: api.OpAligned, A: 1, B: 1}, {Op: api.OpRealloc, A: 1},
	} {
		h := newHeap(t, example())
		c.Deny = true
		wantsRefused(t, h, c, nil, api.ENOMEM)
		c.Deny = false
		wantsAnswer(t, c, script.One(h, c, nil), api.Answer{V: 65536})
		c.Deny = true
		wantsAnswer(t, c, script.One(h, c, nil), api.Answer{V: 65552})
	}
}

// filled tells a call with something else in every field that its Op does not use, but Ref.
func filled(c api.Call, row *numbers) api.Call {
	switch c.Op {
	case api.OpMalloc, api.OpCalloc, api.OpAligned, api.OpTrim, api.OpStats:
		c.P = row.word()
	}
	switch c.Op {
	case api.OpFree, api.OpUsable, api.OpLoad, api.OpLoadWord, api.OpWrite, api.OpTrim, api.OpStats:
		c.A = row.word()
	}
	if c.Op != api.OpCalloc && c.Op != api.OpAligned {
		c.B = row.word()
	}
	if c.Op > api.OpRealloc {
		c.Deny = !c.Deny
	}
	if c.Op != api.OpWrite {
		c.Data = make([]byte, 65537)
	}
	return c
}

// P12.2: fields that an Op does not use are not looked at, whatever they hold.
func TestOtherFields(t *testing.T) {
	for seed := range 40 {
		row := numbers(seed)
		h, twin := twins(t, config(seed%4, 2), seed, 30)
		var answers []api.Answer
		for range 60 {
			c := drawnCall(h, answers, &row)
			want := script.One(h, c, answers)
			wantsAnswer(t, c, script.One(twin, filled(c, &row), answers), want)
			answers = append(answers, want)
		}
		if !sameHeap(h, twin) {
			t.Fatal("other heaps")
		}
	}
}

// P12.2, T1 to T6: every Op with numbers at every edge, at every kind of address, denied and not: each answers what the heap's own call answers, and does the same.
func TestEdgesOfNumbers(t *testing.T) {
	for _, op := range append(ops(), noOps()...) {
		h, twin := twins(t, config(2, 2), op&7, 25)
		live := h.Live()
		answers := []api.Answer{{V: live[0].P}, {E: api.EINVAL, V: live[0].P}, {V: 7}}
		for i, a := range edges() {
			for j, b := range edges() {
				c := api.Call{Op: op, Ref: (i + j) % 5, A: a, B: b, Deny: (i+j)%2 == 0, Data: make([]byte, i)}
				if c.P = live[j%len(live)].P; c.Ref == 1 {
					c.P -= live[0].P
				}
				wantsAnswer(t, c, script.One(h, c, answers), asked(twin, c, answers))
			}
		}
		if !sameHeap(h, twin) {
			t.Fatalf("Op %d: other heaps", op)
		}
	}
}

// done does calls by One on one heap, and by the heap's own on another that is like it; and asks that both answer, and come to, the same.
func done(t *testing.T, h, twin *malloc.Heap, count int, row *numbers) (calls []api.Call, answers []api.Answer) {
	t.Helper()
	for range count {
		c := drawnCall(h, answers, row)
		got, want := script.One(h, c, answers), asked(twin, c, answers)
		wantsAnswer(t, c, got, want)
		if got.E != api.OK && (got.V != 0 || len(got.Data) != 0 || got.Stats != (api.Stats{})) {
			t.Fatalf("%+v: beside an error %+v", c, got)
		}
		calls, answers = append(calls, c), append(answers, got)
	}
	if !sameHeap(h, twin) {
		t.Fatal("other heaps")
	}
	return calls, answers
}

// P12.1, P12.2, T1 to T6: long rows of calls on heaps of every Order, new ones and ones behind many calls.
func TestAgainstHeaps(t *testing.T) {
	met := map[[2]int]int{}
	for seed := range 108 {
		row := numbers(seed)
		h, twin := twins(t, config(seed%9, 1+seed%5), seed, seed%3*40)
		for range 4 {
			calls, answers := done(t, h, twin, 60, &row)
			for i, c := range calls {
				met[[2]int{c.Op, int(answers[i].E)}]++
			}
		}
	}
	for _, op := range ops() {
		if met[[2]int{op, 0}] < 50 {
			t.Errorf("Op %d was done %d times", op, met[[2]int{op, 0}])
		}
	}
	for _, e := range []api.Errno{api.ENOMEM, api.ETOOBIG} {
		for op := api.OpMalloc; op <= api.OpRealloc; op++ {
			if met[[2]int{op, int(e)}] == 0 {
				t.Errorf("Op %d never answered %v", op, e)
			}
		}
	}
}
