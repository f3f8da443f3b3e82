package cache_test

import (
	"slices"
	"testing"

	"croft/api"
	"croft/cache"
	"croft/malloc"
	"croft/script"
)

// step tells one for b: most often one that may be; its address by P, by Ref, or by both.
func (b *both) step(answers []api.Answer, row *numbers) api.Step {
	size := row.size(b.w.c)
	c := api.Call{Op: row.below(14) + 1, P: b.place(row), A: size, Deny: row.below(4) == 0}
	if row.below(2) == 0 {
		c.Op = oneOf(row, api.OpMalloc, api.OpRealloc, api.OpFree, api.OpFree)
	}
	switch c.Op {
	case api.OpCalloc:
		c.A, c.B = uint64(row.below(4)), size/2
	case api.OpAligned:
		c.A, c.B = 1<<row.below(14), size
	case api.OpRead:
		c.A = min(size, 64)
	case api.OpWrite:
		c.Data = row.bytes(row.below(40))
	case api.OpTrim, api.OpStats:
		if row.below(2) == 0 {
			c.Op = api.OpFree // else too little comes to hand
		}
	}
	if len(answers) > 0 && row.below(2) == 0 {
		c.Ref = row.below(len(answers)) + 1
		if a := answers[c.Ref-1]; a.E == api.OK {
			c.P = oneOf(row, 0, c.P-a.V) // the sum may wrap round
		}
	}
	if row.below(8) == 0 {
		c = wrong(c, len(answers), row)
	}
	return api.Step{Worker: b.worker(row), Call: c}
}

// wrong spoils a call, or fills a field that it may not use.
func wrong(c api.Call, answers int, row *numbers) api.Call {
	switch row.below(7) {
	case 0:
		c.Op = oneOf(row, noOps()...)
	case 1:
		c.Ref = oneOf(row, answers+1, answers+2, -1, -c.Ref, 1<<63-1, -1<<63)
	case 2:
		c.P = row.word()
	case 3:
		c.A = oneOf(row, edges()...)
	case 4:
		c.B = oneOf(row, edges()...)
	case 5:
		c.Deny = !c.Deny
	case 6:
		c.Data = row.bytes(row.below(20))
	}
	return c
}

// drawn tells steps and what they answer: they are drawn one by one, each behind those ahead.
func (b *both) drawn(count int, row *numbers) (steps []api.Step, answers []api.Answer) {
	for range count {
		next := b.step(answers, row)
		steps = append(steps, next)
		answers = append(answers, b.w.one(next.Worker, next.Call, answers))
	}
	return steps, answers
}

// byName does a step by the call of its name; of bytes it does Read and Write. Its Ref is 0 and its Op one that is.
func byName(s *cache.Shared, worker int, c api.Call) (a api.Answer) {
	switch c.Op {
	case api.OpMalloc:
		a.V, a.E = s.Malloc(worker, c.A, c.Deny)
	case api.OpCalloc:
		a.V, a.E = s.Calloc(worker, c.A, c.B, c.Deny)
	case api.OpAligned:
		a.V, a.E = s.AlignedAlloc(worker, c.A, c.B, c.Deny)
	case api.OpRealloc:
		a.V, a.E = s.Realloc(worker, c.P, c.A, c.Deny)
	case api.OpFree:
		a.E = s.Free(worker, c.P)
	case api.OpUsable:
		a.V, a.E = s.UsableSize(c.P)
	case api.OpRead:
		a.Data, a.E = s.Read(c.P, c.A)
	case api.OpWrite:
		a.E = s.Write(c.P, c.Data)
	case api.OpTrim:
		a.V = uint64(s.Trim())
	case api.OpStats:
		a.Stats = s.Stats()
	case api.OpLoad, api.OpLoadWord:
		var held []byte
		held, a.E = s.Read(c.P, map[int]uint64{api.OpLoad: 1, api.OpLoadWord: 8}[c.Op])
		for i, b := range held {
			a.V |= uint64(b) << (8 * i)
		}
	case api.OpStore:
		a.E = s.Write(c.P, []byte{byte(c.A)})
	case api.OpStoreWord:
		var list []byte
		for i := range 8 {
			list = append(list, byte(c.A>>(8*i)))
		}
		a.E = s.Write(c.P, list)
	}
	return a
}

// P13.8: steps of every Op, by several workers, denied and not, answer what the chapter says, all at once and one by one.
func TestPlay(t *testing.T) {
	for seed := range 120 {
		row := numbers(seed)
		c, workers, depth := config(seed%9, 1+seed%3), 1+seed%5, []int{0, 1, 2, 5, 64}[seed/3%5]
		b := newBoth(t, c, workers, depth)
		for range seed % 2 * 100 {
			b.call(&row)
		}
		ahead := stateOf(b.s)
		steps, want := b.drawn(150, &row)
		if !sameState(stateOf(b.s), ahead) {
			t.Fatal("the model is not apart")
		}
		if got := played(t, b.s, steps...); !sameAnswers(got, want) {
			for i := range got {
				wantsAnswer(t, steps[i], got[i], want[i])
			}
		}
		b.check()
		b.stats()
	}
}

// P13.8: the same calls by their names, on another Shared, and by Play of one step each.
func TestPlayByName(t *testing.T) {
	for seed := range 90 {
		row := numbers(seed)
		c, workers, depth := config(seed%9, 1+seed%3), 1+seed%5, seed%4
		b, named, single := newBoth(t, c, workers, depth), newShared(t, c, workers, depth), newShared(t, c, workers, depth)
		steps, want := b.drawn(150, &row)
		for i, step := range steps {
			call := step.Call
			if call.Ref < 0 || call.Ref > i || !slices.Contains(ops(), call.Op) || step.Worker < 0 || step.Worker >= workers || call.Op == api.OpRead && call.A > 65536 {
				continue // of these no name says what is promised: they are refused
			}
			if call.Ref > 0 {
				call.P += want[call.Ref-1].V
				call.Ref = 0
			}
			wantsAnswer(t, step, byName(named, step.Worker, call), want[i])
			wantsAnswer(t, step, played(t, single, api.Step{Worker: step.Worker, Call: call})[0], want[i])
		}
		if got := played(t, b.s, steps...); !sameAnswers(got, want) {
			t.Fatal("Play answers otherwise")
		}
		if !sameState(stateOf(named), stateOf(b.s)) || !sameState(stateOf(single), stateOf(b.s)) {
			t.Fatal("other blocks")
		}
	}
}

// P13.8: no step at all.
func TestPlayNothing(t *testing.T) {
	s, _ := full(t, 1, 16)
	unchanged(t, "Play of nothing", s, func() {
		for _, steps := range [][]api.Step{nil, {}} {
			if answers, e := s.Play(steps); len(answers) != 0 || e != api.OK {
				t.Errorf("Play of nothing: %v, %v", answers, e)
			}
		}
	})
}

// P13.8: MaxCalls steps are done, the last by the answer of each ahead; of one more none is, whatever they are.
func TestPlayLimit(t *testing.T) {
	s := newShared(t, config(4, 2), 2, 1)
	var steps []api.Step
	for i := range 2048 {
		steps = append(steps, api.Step{Worker: i % 2, Call: api.Call{Op: api.OpMalloc, A: 16}})
	}
	for i := range 2048 {
		steps = append(steps, api.Step{Worker: i % 2, Call: api.Call{Op: api.OpUsable, Ref: len(steps) - 2*i}})
	}
	steps[4095].Call = api.Call{Op: api.OpUsable, Ref: 4095, P: 1<<32 - 16}
	for i, a := range played(t, s, steps...) {
		want := uint64(16)
		if i < 2048 {
			want = 1<<32 + 16*uint64(i)
		}
		wantsAnswer(t, i, a, api.Answer{V: want})
	}
	frees(t, s, 0, 1<<32)
	unchanged(t, "too many", s, func() {
		for _, count := range []int{4097, 4098, 5000} {
			for _, list := range [][]api.Step{slices.Repeat(steps, 2)[:count], make([]api.Step, count)} {
				if answers, e := s.Play(list); len(answers) != 0 || e != api.ELIMIT {
					t.Errorf("Play of %d steps: %d answers, %v", count, len(answers), e)
				}
			}
		}
	})
}

// P13.8: a worker that is none is EINVAL, whatever the call: what another would be refused for another reason, too; nothing is done, not even a Drain.
func TestPlayByNone(t *testing.T) {
	s, _ := full(t, 1, 16)
	for _, none := range noWorkers(3) {
		unchanged(t, none, s, func() {
			for _, op := range append(ops(), noOps()...) {
				for _, c := range []api.Call{
					{}, {P: 65536, A: 1, B: 1}, {P: 65536, A: 65537, Data: make([]byte, 65537)}, {Ref: 1}, {Ref: -1}, {A: 1 << 63, B: 2}, {A: 3, B: 3}, {P: 1 << 40},
				} {
					c.Op = op
					wantsAnswer(t, c, played(t, s, api.Step{Worker: none, Call: c})[0], api.Answer{E: api.EINVAL})
				}
			}
		})
	}
}

// P13.8, P12.1: a Ref tells an answer ahead, else the step is EINVAL, whatever the Op is, and nothing is done.
func TestPlayRefs(t *testing.T) {
	for ref, want := range map[int]api.Answer{
		-1: {E: api.EINVAL}, 0: {E: api.EINVAL}, 1: {V: 16}, 2: {V: 32}, 3: {E: api.EINVAL}, 4: {E: api.EINVAL}, 5: {E: api.EINVAL}, 1<<63 - 1: {E: api.EINVAL}, -1 << 63: {E: api.EINVAL},
	} {
		answers := played(t, newShared(t, example(), 2, 1),
			api.Step{Worker: 1, Call: api.Call{Op: api.OpMalloc, A: 16}}, api.Step{Worker: 0, Call: api.Call{Op: api.OpMalloc, A: 32}},
			api.Step{Worker: 1, Call: api.Call{Op: api.OpUsable, Ref: ref}}, api.Step{Worker: 1, Call: api.Call{Op: api.OpMalloc, A: 64}},
		)
		wantsAnswer(t, ref, answers[2], want)
		wantsAnswer(t, "the step behind it is done", answers[3], api.Answer{V: 73728})
	}
	s, _ := full(t, 1, 16)
	unchanged(t, "Refs that tell nothing", s, func() {
		for _, op := range append(ops(), noOps()...) {
			for _, ref := range []int{1, 2, -1, 4096, 4097, 1<<63 - 1, -1 << 63} {
				c := api.Call{Op: op, Ref: ref, P: 65536, A: 65537, Data: make([]byte, 65537)}
				wantsAnswer(t, c, played(t, s, api.Step{Worker: 1, Call: c})[0], api.Answer{E: api.EINVAL})
			}
		}
	})
}

// P13.8, P12.1: an answer of an error tells 0, one without V too; what else an answer tells is taken for an address; the sum wraps round.
func TestPlayAddresses(t *testing.T) {
	var steps []api.Step
	add := func(worker int, c api.Call) { steps = append(steps, api.Step{Worker: worker, Call: c}) }
	add(0, api.Call{Op: api.OpMalloc, A: 32})                     // 1: 65536
	add(1, api.Call{Op: api.OpStoreWord, Ref: 1, P: 8, A: 65536}) // 2
	add(1, api.Call{Op: api.OpLoadWord, Ref: 1, P: 8})            // 3: 65536
	add(1, api.Call{Op: api.OpUsable, Ref: 3})                    // 4: 32
	add(1, api.Call{Op: api.OpUsable, Ref: 4, P: 65504})          // 5: 32
	add(1, api.Call{Op: api.OpMalloc, A: 9000})                   // 6: ETOOBIG
	add(1, api.Call{Op: api.OpFree, Ref: 6})                      // 7: of 0
	add(1, api.Call{Op: api.OpUsable, Ref: 6, P: 65536})          // 8: 32
	add(1, api.Call{Op: api.OpRealloc, Ref: 6, A: 16})            // 9: Malloc
	add(1, api.Call{Op: api.OpUsable, Ref: 2, P: 65536})          // 10: 32
	add(2, api.Call{Op: api.OpMalloc, A: 16})                     // 11: EINVAL
	add(0, api.Call{Op: api.OpUsable, Ref: 11, P: 65536})         // 12: 32
	add(0, api.Call{Op: api.OpUsable, Ref: 9, P: 1<<64 - 4096})   // 13: 32
	add(0, api.Call{Op: api.OpFree, Ref: 1, P: 1<<64 - 65536})    // 14: of 0
	add(0, api.Call{Op: api.OpUsable, Ref: 1})                    // 15: 32
	add(0, api.Call{Op: api.OpRead, Ref: 1, P: 8, A: 3})          // 16: 0 0 1
	add(0, api.Call{Op: api.OpUsable, Ref: 16, P: 65536})         // 17: 32
	want := []api.Answer{
		{V: 65536}, {}, {V: 65536}, {V: 32}, {V: 32}, {E: api.ETOOBIG}, {}, {V: 32}, {V: 69632}, {V: 32},
		{E: api.EINVAL}, {V: 32}, {V: 32}, {}, {V: 32}, {Data: []byte{0, 0, 1}}, {V: 32},
	}
	for i, a := range played(t, newShared(t, example(), 2, 1), steps...) {
		wantsAnswer(t, i+1, a, want[i])
	}
}

// P13.8: an Op that is none.
func TestPlayNoOps(t *testing.T) {
	s, p := full(t, 1, 16)
	unchanged(t, "Ops that are none", s, func() {
		for _, op := range noOps() {
			for _, c := range []api.Call{{}, {P: 65536, A: 1, B: 1}, {P: p}, {P: 65536, A: 65537, Data: make([]byte, 65537)}} {
				c.Op = op
				wantsAnswer(t, c, played(t, s, api.Step{Worker: 0, Call: c})[0], api.Answer{E: api.EINVAL})
			}
		}
	})
}

// P13.8: bytes and words at a block's ends, and in a block that is at hand.
func TestPlayAtTheEnds(t *testing.T) {
	for _, size := range []uint64{16, 64, 2048, 4096} {
		s := newShared(t, example(), 2, 2)
		p := takes(t, s, 0, size, 1)[0]
		takes(t, s, 0, size, 1) // what lies behind it is a block too
		fault := api.Answer{E: api.EFAULT}
		one := func(op int, at, a uint64) api.Answer {
			return played(t, s, api.Step{Worker: 1, Call: api.Call{Op: op, P: at, A: a}})[0]
		}
		const word = 0x8877665544332211
		wantsAnswer(t, "the last word", one(api.OpStoreWord, p+size-8, word), api.Answer{})
		wantsAnswer(t, "the last word", one(api.OpLoadWord, p+size-8, 0), api.Answer{V: word})
		wantsAnswer(t, "its lowest byte first", one(api.OpLoad, p+size-8, 0), api.Answer{V: 0x11})
		wantsAnswer(t, "its highest byte last", one(api.OpLoad, p+size-1, 0), api.Answer{V: 0x88})
		wantsAnswer(t, "the lowest byte of A", one(api.OpStore, p+size-1, 0x1ff), api.Answer{})
		wantsAnswer(t, "the lowest byte of A", one(api.OpLoadWord, p+size-8, 0), api.Answer{V: 0xff77665544332211})
		wantsAnswer(t, "at no multiple of 8", one(api.OpStoreWord, p+3, 1<<63), api.Answer{})
		wantsAnswer(t, "at no multiple of 8", one(api.OpLoad, p+10, 0), api.Answer{V: 128})
		for off := uint64(1); off < 8; off++ {
			wantsAnswer(t, "across the end", one(api.OpLoadWord, p+size-off, 0), fault)
			wantsAnswer(t, "across the end", one(api.OpStoreWord, p+size-off, 1), fault)
			wantsAnswer(t, "across the beginning", one(api.OpLoadWord, p-off, 0), fault)
		}
		if size == 4096 {
			continue
		}
		frees(t, s, 0, p)
		unchanged(t, "at hand", s, func() {
			for off := range size {
				for _, op := range []int{api.OpLoad, api.OpStore, api.OpLoadWord, api.OpStoreWord} {
					wantsAnswer(t, "at hand", one(op, p+off, 1), fault)
				}
			}
		})
		wants(t, "it comes back", told(s.Malloc(0, size, true)), answer{p, api.OK})
	}
}

// P13.8, P12.2: Read and Write of at most MaxData bytes: that comes ahead of what the address is; and of no bytes at all, wherever.
func TestPlayDataLimits(t *testing.T) {
	s := newShared(t, config(5, 1), 1, 2)
	p := takes(t, s, 0, 131072, 1)[0]
	row := numbers(3)
	held := row.bytes(131072)
	wantsError(t, "Write", s.Write(p, held), api.OK)
	one := func(c api.Call) api.Answer { return played(t, s, api.Step{Call: c})[0] }
	for _, n := range []int{0, 1, 65535, 65536} {
		wantsAnswer(t, n, one(api.Call{Op: api.OpRead, P: p + 7, A: uint64(n)}), api.Answer{Data: held[7 : 7+n]})
		wantsAnswer(t, n, one(api.Call{Op: api.OpWrite, P: p + 9, Data: held[7 : 7+n]}), api.Answer{})
		wantsAnswer(t, n, one(api.Call{Op: api.OpRead, P: p + 9, A: uint64(n)}), api.Answer{Data: held[7 : 7+n]})
		wantsError(t, "Write", s.Write(p, held), api.OK)
	}
	unchanged(t, "too much", s, func() {
		for _, at := range []uint64{p, 0, p - 1, p + 131072, 1<<64 - 1} {
			for _, n := range []uint64{65537, 65538, 131072, 1 << 32, 1<<64 - 1} {
				wantsAnswer(t, n, one(api.Call{Op: api.OpRead, P: at, A: n}), api.Answer{E: api.ELIMIT})
			}
			wantsAnswer(t, at, one(api.Call{Op: api.OpWrite, P: at, Data: held[:65537]}), api.Answer{E: api.ELIMIT})
			wantsAnswer(t, at, one(api.Call{Op: api.OpWrite, P: at, Data: held}), api.Answer{E: api.ELIMIT})
			wantsAnswer(t, at, one(api.Call{Op: api.OpRead, P: at}), api.Answer{})
			wantsAnswer(t, at, one(api.Call{Op: api.OpWrite, P: at}), api.Answer{})
		}
	})
	if got, e := s.Read(p, 131072); e != api.OK || !slices.Equal(got, held) {
		t.Error("Read by its name has no such limit")
	}
	wantsError(t, "Write by its name has none", s.Write(p, held), api.OK)
	s, p = full(t, 1, 16)
	unchanged(t, "at hand", s, func() {
		wantsAnswer(t, "at hand", one(api.Call{Op: api.OpRead, P: p, A: 65537}), api.Answer{E: api.ELIMIT})
		wantsAnswer(t, "at hand", one(api.Call{Op: api.OpWrite, P: p, Data: held}), api.Answer{E: api.ELIMIT})
		wantsAnswer(t, "at hand", one(api.Call{Op: api.OpRead, P: p, A: 1}), api.Answer{E: api.EFAULT})
		wantsAnswer(t, "at hand", one(api.Call{Op: api.OpWrite, P: p, Data: held[:1]}), api.Answer{E: api.EFAULT})
		wantsAnswer(t, "at hand", one(api.Call{Op: api.OpUsable, P: p}), api.Answer{E: api.EINVAL})
		wantsAnswer(t, "at hand", one(api.Call{Op: api.OpFree, P: p}), api.Answer{E: api.EINVAL})
		wantsAnswer(t, "at hand", one(api.Call{Op: api.OpRealloc, P: p, A: 16}), api.Answer{E: api.EINVAL})
		wantsAnswer(t, "at hand", one(api.Call{Op: api.OpRead, P: p}), api.Answer{})
		wantsAnswer(t, "at hand", one(api.Call{Op: api.OpWrite, P: p}), api.Answer{})
	})
}

// P13.8: OpTrim and OpStats give back what all workers have at hand, whoever does them.
func TestPlayTrimAndStats(t *testing.T) {
	for _, op := range []int{api.OpTrim, api.OpStats} {
		s := newShared(t, example(), 3, 2)
		list := takes(t, s, 0, 4096, 2)
		p := takes(t, s, 0, 16, 1)[0]
		frees(t, s, 1, p)
		want := api.Answer{V: 1}
		if op == api.OpStats {
			want = api.Answer{Stats: api.Stats{H: 16384, L: 8192, Blocks: 2, FreePages: 2}}
		}
		wantsAnswer(t, op, played(t, s, api.Step{Worker: 2, Call: api.Call{Op: op, P: list[0], A: 7}})[0], want)
		wantsKept(t, s, 1)
	}
}

// P13.10: with depth 0 each call answers what the heap's call of that name answers, whichever worker asks.
func TestDepthZero(t *testing.T) {
	for seed := range 90 {
		row := numbers(seed)
		c, workers := config(seed%9, 1+seed%4), 1+seed%5
		b := newBoth(t, c, workers, 0)
		h, _ := malloc.New(c)
		var answers []api.Answer
		for range 250 {
			step := b.step(answers, &row)
			step.Worker = row.below(workers)
			want := script.One(h, step.Call, answers)
			call := step.Call
			if call.Ref > 0 && call.Ref <= len(answers) {
				call.P += answers[call.Ref-1].V
				call.Ref = 0
			}
			wantsAnswer(t, step, played(t, b.s, api.Step{Worker: step.Worker, Call: call})[0], want)
			b.w.one(step.Worker, step.Call, answers)
			answers = append(answers, want)
			if !slices.Equal(h.Live(), b.s.Live()) {
				t.Fatal("other blocks")
			}
			wantsKept(t, b.s, step.Worker)
		}
	}
}

// P13.10: the same by the calls' names.
func TestDepthZeroByName(t *testing.T) {
	for seed := range 60 {
		row := numbers(seed)
		c := config(seed%9, 1+seed%4)
		s := newShared(t, c, 3, 0)
		h, _ := malloc.New(c)
		for range 250 {
			worker, size, deny := row.below(3), row.size(c), row.below(3) == 0
			p := uint64(0)
			if live := h.Live(); len(live) > 0 {
				p = live[row.below(len(live))].P + oneOf[uint64](&row, 0, 0, 0, 8)
			}
			switch row.below(9) {
			case 0:
				wants(t, "Calloc", told(s.Calloc(worker, 3, size/3, deny)), told(h.Calloc(3, size/3, deny)))
			case 1:
				align := oneOf[uint64](&row, 0, 1, 3, 64, 4096, 8192)
				wants(t, "AlignedAlloc", told(s.AlignedAlloc(worker, align, size, deny)), told(h.AlignedAlloc(align, size, deny)))
			case 2, 3:
				wants(t, "Realloc", told(s.Realloc(worker, p, size, deny)), told(h.Realloc(p, size, deny)))
			case 4:
				wantsError(t, "Free", s.Free(worker, p), h.Free(p))
			case 5:
				wants(t, "UsableSize", told(s.UsableSize(p)), told(h.UsableSize(p)))
				got, e := s.Read(p, size)
				want, f := h.Read(p, size)
				if !slices.Equal(got, want) || e != f {
					t.Fatalf("Read: %v, not %v", e, f)
				}
				wantsError(t, "Write", s.Write(p, want), h.Write(p, want))
			case 6:
				if s.Trim() != h.Trim() || s.Stats() != h.Stats() || s.Drain() != 0 || !slices.Equal(s.Live(), h.Live()) {
					t.Fatal("Trim, Stats, Live")
				}
			default:
				wants(t, "Malloc", told(s.Malloc(worker, size, deny)), told(h.Malloc(size, deny)))
			}
		}
	}
}
