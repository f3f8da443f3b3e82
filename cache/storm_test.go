package cache_test

import (
	"runtime"
	"slices"
	"sync"
	"testing"

	"croft/api"
	"croft/cache"
)

// drawnScripts tells scripts whose calls meet one another: their addresses are answers of their own, or places that all of them know.
func drawnScripts(c api.Config, count, length int, row *numbers) [][]api.Call {
	scripts := make([][]api.Call, count)
	for i := range scripts {
		for number := range length {
			size := row.size(c)
			if row.below(2) == 0 {
				size = 16 << row.below(4)
			}
			call := api.Call{Op: row.below(14) + 1, A: size, Deny: row.below(4) == 0}
			if row.below(3) > 0 {
				call.Op = oneOf(row, api.OpMalloc, api.OpMalloc, api.OpFree, api.OpFree, api.OpRealloc, api.OpUsable, api.OpStoreWord, api.OpRead)
			}
			if number > 0 && row.below(3) > 0 {
				call.Ref = 1 + max(0, number-1-row.below(12))
				call.P = oneOf[uint64](row, 0, 0, 0, 8)
			} else {
				call.P = c.Base + 16*uint64(row.below(600))
			}
			switch call.Op {
			case api.OpCalloc:
				call.A, call.B = uint64(row.below(4)), size/2
			case api.OpAligned:
				call.A, call.B = 1<<row.below(14), size
			case api.OpRead:
				call.A = min(size, 16)
			case api.OpWrite:
				call.Data = row.bytes(row.below(20))
			}
			if row.below(12) == 0 {
				call = wrong(call, number, row)
			}
			scripts[i] = append(scripts[i], call)
		}
	}
	return scripts
}

// inOrder asks that a log has each worker's calls once, in the script's order, and all of them.
func inOrder(t *testing.T, scripts [][]api.Call, log []api.Done) {
	t.Helper()
	next := make([]int, len(scripts))
	for _, d := range log {
		if d.Worker < 0 || d.Worker >= len(scripts) || d.Number != next[d.Worker] {
			t.Fatalf("the call number %d of the worker %d is told where %v were next", d.Number, d.Worker, next)
		}
		next[d.Worker]++
	}
	for i, calls := range scripts {
		if next[i] != len(calls) {
			t.Fatalf("%d of %d calls of the worker %d are told", next[i], len(calls), i)
		}
	}
}

// redone says whether the calls of a log, done one after the other in its order, answer what they answered: each is done by Play, alone, its address told by the answers of the worker's own script.
func redone(t *testing.T, s *cache.Shared, scripts [][]api.Call, log []api.Done) bool {
	t.Helper()
	answers := make([][]api.Answer, len(scripts))
	for _, d := range log {
		call := scripts[d.Worker][d.Number]
		if own := answers[d.Worker]; call.Ref > 0 && call.Ref <= len(own) {
			call.P += own[call.Ref-1].V
			call.Ref = 0
		}
		a := played(t, s, api.Step{Worker: d.Worker, Call: call})[0]
		if !sameAnswer(a, d.Answer) {
			return false
		}
		answers[d.Worker] = append(answers[d.Worker], a)
	}
	return true
}

// redoneByModel says the same of the chapter's words, Refs and all.
func redoneByModel(m *model, scripts [][]api.Call, log []api.Done) bool {
	answers := make([][]api.Answer, len(scripts))
	for _, d := range log {
		a := m.one(d.Worker, scripts[d.Worker][d.Number], answers[d.Worker])
		if !sameAnswer(a, d.Answer) {
			return false
		}
		answers[d.Worker] = append(answers[d.Worker], a)
	}
	return true
}

// P13.9, T11: Storms of several workers on new heaps and behind many calls: done once more in the order that was told, each call answers what it answered, and all is as it was.
func TestStorm(t *testing.T) {
	for seed := range 60 {
		row := numbers(seed)
		c, workers, depth := config(seed%4, 1+seed%3), 1+seed%16, []int{0, 1, 3, 64}[seed/2%4]
		b, twin := newBoth(t, c, workers, depth), newShared(t, c, workers, depth)
		steps, _ := newBoth(t, c, workers, depth).drawn(seed%2*120, &row)
		played(t, b.s, steps...)
		played(t, twin, steps...)
		var answers []api.Answer
		for _, step := range steps {
			answers = append(answers, b.w.one(step.Worker, step.Call, answers))
		}
		scripts := drawnScripts(c, 1+row.below(workers), 150, &row)
		log := stormed(t, b.s, scripts)
		inOrder(t, scripts, log)
		if !redone(t, twin, scripts, log) || !redoneByModel(b.w, scripts, log) {
			t.Fatalf("seed %d: done once more in the order that is told, a call answers otherwise", seed)
		}
		b.check()
		if !sameState(stateOf(b.s), stateOf(twin)) || b.s.Stats() != twin.Stats() {
			t.Fatal("behind the Storm it is not as the calls leave it")
		}
		for range 60 {
			b.w.drain()
			b.s.Drain()
			b.call(&row)
		}
	}
}

// P13.9: a worker alone does its script as Play does it.
func TestStormOfOne(t *testing.T) {
	for seed := range 30 {
		row := numbers(seed)
		c := config(seed%9, 2)
		s, twin := newShared(t, c, 3, 2), newShared(t, c, 3, 2)
		calls := drawnScripts(c, 1, 200, &row)[0]
		var steps []api.Step
		for _, call := range calls {
			steps = append(steps, api.Step{Worker: 2, Call: call})
		}
		want := played(t, twin, steps...)
		log := stormed(t, s, [][]api.Call{nil, {}, calls})
		for i, d := range log {
			if d.Worker != 2 || d.Number != i || !sameAnswer(d.Answer, want[i]) {
				t.Fatalf("%+v: %+v, not %+v", calls[i], d, want[i])
			}
		}
		if !sameState(stateOf(s), stateOf(twin)) {
			t.Fatal("other blocks")
		}
	}
}

// P13.9: of no script, and of scripts without calls, nothing is done; fewer scripts than workers will do.
func TestStormOfNothing(t *testing.T) {
	s, _ := full(t, 1, 16)
	unchanged(t, "Storm of nothing", s, func() {
		for _, scripts := range [][][]api.Call{nil, {}, {nil}, {{}}, {nil, nil, nil}, {{}, {}, {}}} {
			if log, e := s.Storm(scripts); len(log) != 0 || e != api.OK {
				t.Errorf("Storm of nothing: %v, %v", log, e)
			}
		}
	})
	stats := []api.Call{{Op: api.OpStats}}
	for count := range 4 {
		stormed(t, s, slices.Repeat([][]api.Call{stats}, count))
	}
}

// refusesStorm asks that scripts are refused, and nothing is done of them.
func refusesStorm(t *testing.T, s *cache.Shared, scripts [][]api.Call, want api.Errno) {
	t.Helper()
	unchanged(t, want, s, func() {
		if log, e := s.Storm(scripts); len(log) != 0 || e != want {
			t.Fatalf("Storm of %d scripts: %d, %v, not %v", len(scripts), len(log), e, want)
		}
	})
}

// P13.9: as many scripts as workers are done; one more is refused, whatever they are.
func TestStormOfTooMany(t *testing.T) {
	one := []api.Call{{Op: api.OpMalloc, A: 16}, {Op: api.OpFree, Ref: 1}, {Op: api.OpMalloc, A: 4096}}
	for workers := 1; workers <= 16; workers++ {
		s := newShared(t, config(0, 64), workers, 1)
		stormed(t, s, slices.Repeat([][]api.Call{one}, workers))
		if got := len(s.Live()); got != workers {
			t.Errorf("%d workers have %d blocks", workers, got)
		}
		for more := range 3 {
			refusesStorm(t, s, slices.Repeat([][]api.Call{one}, workers+1+more), api.EINVAL)
			refusesStorm(t, s, make([][]api.Call, workers+1+more), api.EINVAL)
		}
		refusesStorm(t, s, slices.Repeat([][]api.Call{make([]api.Call, 4097)}, workers+1), api.EINVAL)
	}
}

// P13.9: a script of MaxCalls calls is done; if one has a call more, nothing is done of any, whichever it is.
func TestStormOfTooLong(t *testing.T) {
	calls := slices.Repeat([]api.Call{{Op: api.OpMalloc, A: 16}}, 2048)
	for i := range 2048 {
		calls = append(calls, api.Call{Op: api.OpFree, Ref: i + 1})
	}
	s := newShared(t, config(6, 2), 4, 3)
	log := stormed(t, s, [][]api.Call{calls, calls, nil, calls})
	inOrder(t, [][]api.Call{calls, calls, nil, calls}, log)
	for _, d := range log {
		wantsError(t, d, d.Answer.E, api.OK)
	}
	wantsLive(t, s)
	for _, worker := range []int{0, 1, 3} {
		wantsKept(t, s, worker, 3)
	}
	for _, count := range []int{4097, 4098, 5000} {
		long := slices.Repeat(calls, 2)[:count]
		for place := range 4 {
			scripts := [][]api.Call{calls[:5], calls[:4], nil, calls}
			scripts[place] = long
			refusesStorm(t, s, scripts, api.ELIMIT)
		}
		refusesStorm(t, s, [][]api.Call{long}, api.ELIMIT)
		refusesStorm(t, s, [][]api.Call{long, long, long, long}, api.ELIMIT)
	}
}

// P13.9: all scripts at the limits: every worker there may be, each with as many calls as there may be.
func TestStormAtTheLimits(t *testing.T) {
	row := numbers(8)
	c := config(4, 16)
	s, twin := newShared(t, c, 16, 64), newShared(t, c, 16, 64)
	scripts := drawnScripts(c, 16, 4096, &row)
	log := stormed(t, s, scripts)
	inOrder(t, scripts, log)
	if !redone(t, twin, scripts, log) || !sameState(stateOf(s), stateOf(twin)) {
		t.Fatal("done once more in the order that is told, a call answers otherwise")
	}
}

// P13.9: each call is done as if it were alone: of many workers that free one block one does, of many that ask for the last block one gets it.
func TestStormAlone(t *testing.T) {
	for range 30 {
		s := newShared(t, api.Config{Base: 65536, Limit: 1, Order: 2}, 16, 2)
		list := takes(t, s, 0, 64, 200)
		scripts := make([][]api.Call, 16)
		for i := range scripts {
			for _, p := range list {
				scripts[i] = append(scripts[i], api.Call{Op: api.OpFree, P: p})
			}
			for range 300 {
				scripts[i] = append(scripts[i], api.Call{Op: api.OpMalloc, A: 64})
			}
		}
		freed, got := 0, map[uint64]int{}
		for _, d := range stormed(t, s, scripts) {
			if d.Answer.E == api.OK && d.Number < 200 {
				freed++
			} else if d.Answer.E == api.OK {
				got[d.Answer.V]++
			}
		}
		// What a worker has asked for another may free: so more may go than there were. Who frees last asks for 300 blocks behind it: all places are taken then.
		if live := len(s.Live()); live != 256 || freed < 200 {
			t.Fatalf("%d were freed, %d addresses were told, %d blocks are live", freed, len(got), live)
		}
	}
}

// P13.9: a worker frees what others have asked for: each block goes once.
func TestStormFreesOthers(t *testing.T) {
	for range 20 {
		s := newShared(t, config(4, 2), 8, 4)
		list := takes(t, s, 0, 32, 400)
		scripts := make([][]api.Call, 8)
		for i := range scripts {
			for _, p := range list {
				scripts[i] = append(scripts[i], api.Call{Op: api.OpFree, P: p})
			}
		}
		gone := make([]int, len(list))
		for _, d := range stormed(t, s, scripts) {
			if d.Answer.E == api.OK {
				gone[d.Number]++
			}
		}
		if slices.Max(gone) != 1 || slices.Min(gone) != 1 {
			t.Fatalf("%v", gone)
		}
		wantsLive(t, s)
	}
}

// settles says whether there are at most so many goroutines, once those that have nothing left to do are gone.
func settles(want int) bool {
	for range 100000 {
		if runtime.NumGoroutine() <= want {
			return true
		}
		runtime.Gosched()
	}
	return false
}

// P13.9: all goroutines have ended behind a Storm, also behind one that is refused.
func TestStormEnds(t *testing.T) {
	row := numbers(2)
	s := newShared(t, config(2, 3), 16, 4)
	ahead := runtime.NumGoroutine()
	for range 50 {
		stormed(t, s, drawnScripts(config(2, 3), 16, 30, &row))
		s.Storm(make([][]api.Call, 17))
		long := make([][]api.Call, 16)
		long[15] = make([]api.Call, 4097)
		wantsLimit(t, s, long)
		long[0], long[15] = long[15], nil
		wantsLimit(t, s, long)
	}
	if !settles(ahead) {
		t.Errorf("%d goroutines, ahead of the Storms %d", runtime.NumGoroutine(), ahead)
	}
}

func wantsLimit(t *testing.T, s *cache.Shared, scripts [][]api.Call) {
	t.Helper()
	if _, e := s.Storm(scripts); e != api.ELIMIT {
		t.Fatalf("Storm: %v", e)
	}
}

// P13.9, R5: a Storm is one call: nothing that others ask for meanwhile comes between its own. Two at the same time are done one after the other.
func TestTwoStorms(t *testing.T) {
	for seed := range 30 {
		row := numbers(seed)
		c := config(2, 3)
		s := newShared(t, c, 4, 2)
		scripts := [][][]api.Call{drawnScripts(c, 4, 120, &row), drawnScripts(c, 4, 120, &row)}
		logs := make([][]api.Done, 2)
		var all sync.WaitGroup
		for i := range 2 {
			all.Go(func() { logs[i], _ = s.Storm(scripts[i]) })
			all.Go(func() { // what others look at changes nothing
				for range 200 {
					s.Live()
					s.Kept(i)
					s.UsableSize(c.Base)
					s.Read(c.Base, 1)
				}
			})
		}
		all.Wait()
		found := 0
		for i := range 2 {
			twin := newShared(t, c, 4, 2)
			if redone(t, twin, scripts[i], logs[i]) && redone(t, twin, scripts[1-i], logs[1-i]) && sameState(stateOf(s), stateOf(twin)) {
				found++
			}
		}
		if found == 0 {
			t.Fatal("two Storms were not done one after the other")
		}
	}
}
