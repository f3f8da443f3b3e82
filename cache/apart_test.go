package cache_test

import (
	"bytes"
	"slices"
	"sync"
	"testing"

	"croft/api"
	"croft/cache"
)

// roomy tells calls like calls, in memory with spare room behind them and behind each Data.
func roomy(calls []api.Call) []api.Call {
	list := make([]api.Call, 0, len(calls)+3)
	for _, c := range calls {
		c.Data = append(make([]byte, 0, len(c.Data)+5), c.Data...)
		copy(c.Data[len(c.Data):cap(c.Data)], "spare")
		list = append(list, c)
	}
	copy(list[len(list):cap(list)], []api.Call{{Op: 77, Data: []byte("more")}, {Ref: 5}, {P: 9}})
	return list
}

// copied tells calls in memory of their own, spare room and all.
func copied(calls []api.Call) []api.Call {
	list := slices.Clone(calls[:cap(calls)])
	for i := range list {
		list[i].Data = slices.Clone(list[i].Data[:cap(list[i].Data)])
	}
	return list
}

func sameCall(one, other api.Call) bool {
	return one.Op == other.Op && one.Ref == other.Ref && one.P == other.P && one.A == other.A && one.B == other.B &&
		one.Deny == other.Deny && bytes.Equal(one.Data, other.Data)
}

// bytesCalls tells calls with bytes that go to a block and come back.
func bytesCalls(row *numbers) []api.Call {
	return []api.Call{
		{Op: api.OpCalloc, A: 1, B: 64},
		{Op: api.OpWrite, Ref: 1, P: 3, Data: row.bytes(20)},
		{Op: api.OpRead, Ref: 1, A: 40},
		{Op: api.OpRead, Ref: 1, A: 40},
		{Op: api.OpRead, Ref: 1},
		{Op: api.OpStats},
		{Op: api.OpRead, Ref: 1, P: 1, A: 39},
		{Op: api.OpMalloc, A: 64},
		{Op: api.OpFree, Ref: 8},
	}
}

func spansOfCalls(calls []api.Call) []span {
	all := spanOf(calls)
	for _, c := range calls {
		all = append(all, spanOf(c.Data)...)
	}
	return all
}

// spansOfAnswers tells those of all Data.
func spansOfAnswers(answers []api.Answer) []span {
	var all []span
	for _, a := range answers {
		all = append(all, spanOf(a.Data)...)
	}
	return all
}

// spoil writes over answers and calls, spare room too.
func spoil(calls []api.Call, answers []api.Answer) {
	for _, c := range calls[:cap(calls)] {
		clear(c.Data[:cap(c.Data)])
	}
	clear(calls[:cap(calls)])
	for _, a := range answers {
		clear(a.Data[:cap(a.Data)])
	}
}

// R4: Play changes nothing of the steps, spare room included, and keeps nothing of them; what it answers is new memory.
func TestPlayApart(t *testing.T) {
	for seed := range 20 {
		row := numbers(seed)
		s := newShared(t, example(), 2, 2)
		calls := roomy(bytesCalls(&row))
		steps := make([]api.Step, 0, len(calls)+2)
		for i, c := range calls {
			steps = append(steps, api.Step{Worker: i % 2, Call: c})
		}
		steps[:cap(steps)][len(steps)] = api.Step{Worker: 99}
		whole, ahead := slices.Clone(steps[:cap(steps)]), copied(calls)
		answers := played(t, s, steps...)
		same := func(one, other api.Step) bool { return one.Worker == other.Worker && sameCall(one.Call, other.Call) }
		if !slices.EqualFunc(steps[:cap(steps)], whole, same) || !slices.EqualFunc(copied(calls), ahead, sameCall) {
			t.Fatal("Play has changed the steps")
		}
		wantsApart(t, "Play", spansOfCalls(calls), spanOf(steps), spanOf(answers), spansOfAnswers(answers))
		is := stateOf(s)
		spoil(calls, answers)
		clear(steps[:cap(steps)])
		clear(answers[:cap(answers)])
		if !sameState(stateOf(s), is) {
			t.Fatal("what is done to steps and answers is seen")
		}
		want := append([]byte{0, 0, 0}, ahead[1].Data[:20]...)
		if held, e := s.Read(65536, 23); e != api.OK || !bytes.Equal(held, want) {
			t.Fatalf("what was written: %v, %v", held, e)
		}
	}
}

// R4: Storm changes nothing of the scripts, spare room included, and keeps nothing of them; what it answers is new memory.
func TestStormApart(t *testing.T) {
	for seed := range 20 {
		row := numbers(seed)
		s := newShared(t, config(2, 2), 4, 2)
		scripts := make([][]api.Call, 0, 5)
		var ahead [][]api.Call
		for range 4 {
			scripts = append(scripts, roomy(bytesCalls(&row)))
			ahead = append(ahead, copied(scripts[len(scripts)-1]))
		}
		extra := roomy(bytesCalls(&row))
		scripts[:5][4] = extra
		log := stormed(t, s, scripts)
		spans := [][]span{spanOf(scripts), spanOf(log)}
		var answers []api.Answer
		for _, d := range log {
			answers = append(answers, d.Answer)
		}
		spans = append(spans, spansOfAnswers(answers))
		for i, calls := range scripts {
			if !slices.EqualFunc(copied(calls), ahead[i], sameCall) {
				t.Fatal("Storm has changed the scripts")
			}
			spans = append(spans, spansOfCalls(calls))
		}
		if got := scripts[:5][4]; len(got) != len(extra) || &got[0] != &extra[0] {
			t.Fatal("Storm has changed the spare room")
		}
		wantsApart(t, "Storm", spans...)
		is := stateOf(s)
		for _, calls := range scripts {
			spoil(calls, nil)
		}
		spoil(nil, answers)
		clear(log[:cap(log)])
		if !sameState(stateOf(s), is) {
			t.Fatal("what is done to scripts and answers is seen")
		}
	}
}

// R4: what Live, Kept and Read tell is new memory each time; what Write is handed is not changed and not kept.
func TestListsApart(t *testing.T) {
	s := newShared(t, example(), 2, 2)
	list := takes(t, s, 0, 16, 4)
	frees(t, s, 0, list[0])
	piece := append(make([]byte, 0, 9), "abc"...)
	copy(piece[3:9], "spare!")
	wantsError(t, "Write", s.Write(list[1], piece), api.OK)
	if string(piece[:9]) != "abcspare!" {
		t.Error("Write has changed what it was handed")
	}
	read := func() []byte { held, _ := s.Read(list[1], 3); return held }
	live, kept, held := s.Live(), s.Kept(0), read()
	wantsApart(t, "lists", spanOf(live), spanOf(s.Live()), spanOf(held), spanOf(read()), spanOf(piece))
	wantsApart(t, "Kept", spanOf(kept), spanOf(s.Kept(0)))
	is := stateOf(s)
	clear(live[:cap(live)])
	clear(kept[:cap(kept)])
	clear(held[:cap(held)])
	clear(piece[:9])
	if !sameState(stateOf(s), is) || string(read()) != "abc" {
		t.Error("what is done to lists is seen")
	}
	wantsKept(t, s, 0, 1)
}

// R5: the same is asked of two, with other things asked of a third between: they answer the same, and have nothing in common.
func TestSameAnswers(t *testing.T) {
	for seed := range 40 {
		row := numbers(seed)
		c := config(seed%9, 2)
		b, twin, other := newBoth(t, c, 3, 2), newShared(t, c, 3, 2), newBoth(t, c, 3, 2)
		steps, want := b.drawn(100, &row)
		for i, step := range steps {
			call := step.Call
			if call.Ref > 0 && call.Ref <= i {
				call.P, call.Ref = call.P+want[call.Ref-1].V, 0
			}
			alone := api.Step{Worker: step.Worker, Call: call}
			wantsAnswer(t, step, played(t, b.s, alone)[0], want[i])
			other.call(&row)
			wantsAnswer(t, step, played(t, twin, alone)[0], want[i])
		}
		b.check()
		other.check()
		if !sameState(stateOf(b.s), stateOf(twin)) {
			t.Fatal("other blocks")
		}
	}
}

// user is a goroutine's: it knows its own blocks alone, and must not feel the others.
type user struct {
	s     *cache.Shared
	mark  byte
	mine  []api.Block
	wrong string
}

func (u *user) want(is bool, what string) {
	if !is && u.wrong == "" {
		u.wrong = what
	}
}

func (u *user) marked(n uint64) []byte { return bytes.Repeat([]byte{u.mark}, int(n)) }

// take enters a new block, and marks it as its own.
func (u *user) take(p uint64, e api.Errno) {
	if e == api.ENOMEM {
		return
	}
	r, f := u.s.UsableSize(p)
	u.want(e == api.OK && f == api.OK, "a new block is not live")
	u.want(u.s.Write(p, u.marked(r)) == api.OK, "a new block can't be written")
	u.mine = append(u.mine, api.Block{P: p, Size: r})
}

func (u *user) call(worker int, row *numbers) {
	size := uint64(1) << row.below(14)
	if len(u.mine) == 0 || row.below(3) == 0 {
		u.take(u.s.Malloc(worker, size, row.below(2) == 0))
		return
	}
	i := row.below(len(u.mine))
	b := u.mine[i]
	held, e := u.s.Read(b.P, b.Size)
	u.want(e == api.OK && bytes.Equal(held, u.marked(b.Size)), "a block does not hold what was stored")
	switch row.below(6) {
	case 0:
		q, e := u.s.Realloc(worker, b.P, size, false)
		if e == api.OK {
			r, _ := u.s.UsableSize(q)
			held, _ := u.s.Read(q, min(r, b.Size))
			u.want(bytes.Equal(held, u.marked(min(r, b.Size))), "a moved block does not hold what was stored")
			u.mine = slices.Delete(u.mine, i, i+1)
			u.take(q, e)
		}
	case 1:
		u.s.Trim()
		u.s.Stats()
	case 2:
		u.s.Live()
		u.s.Kept(worker)
		u.s.Drain()
	case 3:
		a, _ := u.s.Play([]api.Step{
			{Worker: worker, Call: api.Call{Op: api.OpMalloc, A: size}},
			{Worker: worker, Call: api.Call{Op: api.OpStats}},
			{Worker: worker, Call: api.Call{Op: api.OpFree, Ref: 1}},
			{Worker: worker, Call: api.Call{Op: api.OpStats}},
		})
		n := uint64(0)
		if a[0].E == api.OK {
			n = 1
		}
		u.want(a[1].Stats.Blocks == a[3].Stats.Blocks+int(n), "others come between the steps of a Play")
	default:
		u.want(u.s.Free(worker, b.P) == api.OK, "a block can't be freed")
		u.mine = slices.Delete(u.mine, i, i+1)
	}
}

// R1, R5: several goroutines over one Shared, more than one to a worker: nobody feels the others, and in the end just what they have is handed out.
func TestTogether(t *testing.T) {
	s := newShared(t, config(2, 16), 4, 3)
	users := make([]user, 8)
	var all sync.WaitGroup
	for i := range users {
		users[i] = user{s: s, mark: byte(i + 1)}
		all.Go(func() {
			row := numbers(i)
			for range 800 {
				users[i].call(i%4, &row)
			}
		})
	}
	all.Wait()
	var want []api.Block
	for i := range users {
		if users[i].wrong != "" {
			t.Errorf("user %d: %s", i, users[i].wrong)
		}
		want = append(want, users[i].mine...)
	}
	slices.SortFunc(want, func(one, other api.Block) int { return int(one.P) - int(other.P) })
	wantsLive(t, s, want...)
}
