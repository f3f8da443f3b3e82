package script_test

import (
	"slices"
	"sync"
	"testing"

	"croft/api"
	"croft/script"
)

// roomy tells calls like calls, in memory with spare room behind them and behind each Data.
func roomy(calls []api.Call) []api.Call {
	list := make([]api.Call, 0, len(calls)+3)
	for _, c := range calls {
		c.Data = append(make([]byte, 0, len(c.Data)+5), c.Data...)
		copy(c.Data[len(c.Data):cap(c.Data)], "spare")
		list = append(list, c)
	}
	copy(list[len(list):cap(list)], []api.Call{{Op: 77, Data: []byte("more")}, {Ref: 5}, {P: 9}})
	return list
}

// wantsUnchanged asks that calls are as they were copied, spare room too.
func wantsUnchanged(t *testing.T, what string, calls, ahead []api.Call) {
	t.Helper()
	if !sameCalls(copied(calls), ahead) {
		t.Fatalf("%s has changed the calls", what)
	}
}

// bytesCalls tells calls with bytes that go to a heap and come back.
func bytesCalls(row *numbers) []api.Call {
	return []api.Call{
		{Op: api.OpCalloc, A: 1, B: 64},
		{Op: api.OpWrite, Ref: 1, P: 3, Data: row.bytes(20)},
		{Op: api.OpRead, Ref: 1, A: 40},
		{Op: api.OpRead, Ref: 1, A: 40},
		{Op: api.OpRead, Ref: 1},
		{Op: api.OpStats},
		{Op: api.OpRead, Ref: 1, P: 1, A: 39},
	}
}

// R4: Play and One change nothing of what they are handed, and keep nothing of it; what they answer is new memory.
func TestAnswersApart(t *testing.T) {
	for seed := range 20 {
		row := numbers(seed)
		h := newHeap(t, example())
		calls := roomy(bytesCalls(&row))
		ahead := copied(calls)
		answers := played(t, h, calls)
		wantsUnchanged(t, "Play", calls, ahead)
		again := played(t, h, []api.Call{{Op: api.OpRead, P: 65536, A: 40}})
		wantsAnswer(t, "read again", again[0], answers[2])
		wantsApart(t, "Play", spansOfCalls(calls), spansOfAnswers(answers), spansOfAnswers(again))
		heap := h.Image()
		for _, c := range calls {
			clear(c.Data[:cap(c.Data)])
		}
		for _, a := range answers {
			clear(a.Data[:cap(a.Data)])
		}
		clear(answers[:cap(answers)])
		if !sameImage(h.Image(), heap) {
			t.Fatal("what is done to calls and answers is seen in the heap")
		}
		want := append([]byte{0, 0, 0}, ahead[1].Data[:20]...)
		got := script.One(h, api.Call{Op: api.OpRead, P: 65536, A: 23}, nil)
		wantsAnswer(t, "what was written", got, api.Answer{Data: want})
	}
}

// R4: the answers that One is handed are not changed, and not kept.
func TestHandedAnswers(t *testing.T) {
	for seed := range 30 {
		row := numbers(seed)
		h, _ := twins(t, example(), seed, 30)
		whole := append(values(h.Config().Base, 0, 7), api.Answer{E: api.EINVAL, V: 9, Data: []byte("data")}, api.Answer{V: 5, Data: []byte("spare")})
		for _, count := range []int{0, 3, 4} {
			ahead := slices.Clone(whole)
			for i := range ahead {
				ahead[i].Data = slices.Clone(ahead[i].Data)
			}
			for range 60 {
				c := drawnCall(h, whole[:count], &row)
				a := script.One(h, c, whole[:count])
				wantsApart(t, "One", spansOfAnswers(whole), spanOf(c.Data), spanOf(a.Data))
				if !sameAnswers(whole, ahead) {
					t.Fatalf("%+v has changed the answers", c)
				}
			}
		}
	}
}

// R4: Print changes nothing of the calls, those without a text too.
func TestPrintApart(t *testing.T) {
	for seed := range 300 {
		row := numbers(seed)
		calls := tellables(1+row.below(20), &row)
		if seed%3 == 0 {
			calls = append(calls, wrong(calls[0], 3, &row))
		}
		calls = roomy(calls)
		ahead := copied(calls)
		text, e := script.Print(calls)
		wantsUnchanged(t, "Print", calls, ahead)
		want := string([]byte(text))
		for i := range calls {
			clear(calls[i].Data)
		}
		clear(calls)
		if text != want || (e == api.OK) != (text != "") {
			t.Fatal("the text is not the calls'")
		}
	}
}

// R4: no two lists that Parse answers share memory; what is put behind one is not seen in another.
func TestParseApart(t *testing.T) {
	const text = "write 1 0102\nwrite 1 -\nwrite 2 0102\nmalloc 1\nwrite $1 030405060708090a0b\n"
	one, other := parsed(t, text), parsed(t, text)
	wantsApart(t, "Parse", spansOfCalls(one), spansOfCalls(other))
	for i := range one {
		one[i].Data = append(one[i].Data, 99)
		clear(one[i].Data[:cap(one[i].Data)])
	}
	clear(one[:cap(one)])
	if got := printed(t, other); got != text {
		t.Errorf("%q", got)
	}
	if got := printed(t, parsed(t, text)); got != text {
		t.Errorf("%q", got)
	}
}

// R4: nil and an empty list are one.
func TestEmptyLists(t *testing.T) {
	h := newHeap(t, example())
	for _, data := range [][]byte{nil, {}} {
		for _, answers := range [][]api.Answer{nil, {}} {
			wantsAnswer(t, "Write", script.One(h, api.Call{Op: api.OpWrite, Data: data}, answers), api.Answer{})
			wantsRefused(t, h, api.Call{Op: api.OpWrite, Ref: 1, Data: data}, answers, api.EINVAL)
		}
		if text := printed(t, []api.Call{{Op: api.OpWrite, Data: data}, {Op: api.OpTrim, Data: data}}); text != "write 0 -\ntrim\n" {
			t.Errorf("Print: %q", text)
		}
	}
}

// R5: the same is asked again, with other things between, and the answers are the same; two heaps have nothing in common.
func TestSameAnswers(t *testing.T) {
	for seed := range 40 {
		row := numbers(seed)
		c := config(seed%9, 2)
		h, twin := twins(t, c, seed, 30)
		_, other := twins(t, c, seed+1, 30)
		var answers, others []api.Answer
		for range 60 {
			one := drawnCall(h, answers, &row)
			want := script.One(h, one, answers)
			others = append(others, script.One(other, drawnCall(other, others, &row), others))
			script.Parse("malloc 1\nx")
			script.Print([]api.Call{one})
			wantsAnswer(t, one, script.One(twin, one, answers), want)
			answers = append(answers, want)
		}
		if !sameHeap(h, twin) {
			t.Fatal("other heaps")
		}
	}
}

// R5: several may ask at the same time, each of a heap of its own, with the same calls and the same text.
func TestTogether(t *testing.T) {
	row := numbers(3)
	h := newHeap(t, example())
	var calls []api.Call
	var want []api.Answer
	for len(calls) < 200 {
		c := drawnCall(h, want, &row)
		if _, e := callsText([]api.Call{c}); e == api.OK {
			calls, want = append(calls, c), append(want, script.One(h, c, want))
		}
	}
	text := printed(t, calls)
	same := make([]bool, 8)
	var all sync.WaitGroup
	for i := range same {
		twin := newHeap(t, example())
		all.Go(func() {
			read, _, _ := script.Parse(text)
			told, _ := script.Print(calls)
			first, _ := script.Play(twin, calls)
			same[i] = sameCalls(read, calls) && told == text && sameAnswers(first, want) && sameHeap(twin, h)
		})
	}
	all.Wait()
	if slices.Contains(same, false) {
		t.Errorf("asked together: %v", same)
	}
}

// R1, R5: several may play on one heap at the same time: each call is done as if it were alone, so that no two blocks meet.
func TestTogetherOnOneHeap(t *testing.T) {
	h := newHeap(t, config(3, 4))
	got := make([][]api.Answer, 8)
	var all sync.WaitGroup
	for i := range got {
		all.Go(func() {
			calls := slices.Repeat([]api.Call{{Op: api.OpMalloc, A: 32}}, 100)
			got[i], _ = script.Play(h, calls)
		})
	}
	all.Wait()
	met := map[uint64]int{}
	for _, answers := range got {
		for _, a := range answers {
			met[a.V]++
		}
	}
	if len(met) != 800 || len(h.Live()) != 800 || met[0] != 0 {
		t.Errorf("%d addresses, %d live blocks", len(met), len(h.Live()))
	}
}
