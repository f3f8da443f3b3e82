package script_test

import (
	"slices"
	"testing"

	"croft/api"
	"croft/script"
)

// P12.3: no call at all is no answer.
func TestPlayNothing(t *testing.T) {
	h, twin := twins(t, example(), 7, 20)
	for _, calls := range [][]api.Call{nil, {}} {
		if answers, e := script.Play(h, calls); len(answers) != 0 || e != api.OK {
			t.Errorf("Play of nothing: %v, %v", answers, e)
		}
	}
	if !sameHeap(h, twin) {
		t.Error("Play of nothing has changed something")
	}
}

// P12.3: MaxCalls calls are done, the last by the answer of each ahead; of one more none is.
func TestPlayLimit(t *testing.T) {
	h := newHeap(t, config(4, 2))
	calls := slices.Repeat([]api.Call{{Op: api.OpMalloc, A: 16}}, 2048)
	for i := range 2048 {
		calls = append(calls, api.Call{Op: api.OpUsable, Ref: len(calls) - 2*i})
	}
	calls[4095] = api.Call{Op: api.OpUsable, Ref: 4095, P: h.Config().Base - 16}
	answers := played(t, h, calls)
	for i, a := range answers {
		want := uint64(16)
		if i < 2048 {
			want = h.Config().Base + 16*uint64(i)
		}
		wantsAnswer(t, i, a, api.Answer{V: want})
	}
	ahead := h.Image()
	for _, count := range []int{4097, 4098, 5000} {
		if answers, e := script.Play(h, slices.Repeat(calls, 2)[:count]); len(answers) != 0 || e != api.ELIMIT {
			t.Errorf("Play of %d calls: %d answers, %v", count, len(answers), e)
		}
		if answers, e := script.Play(h, make([]api.Call, count)); len(answers) != 0 || e != api.ELIMIT {
			t.Errorf("Play of %d calls that are none: %d answers, %v", count, len(answers), e)
		}
	}
	if !sameImage(h.Image(), ahead) {
		t.Error("too many calls have changed something")
	}
}

// P12.3: a call's Ref tells a call ahead of it: not itself, and none behind.
func TestPlayRefs(t *testing.T) {
	for ref, want := range map[int]api.Answer{
		-1: {E: api.EINVAL}, 0: {E: api.EINVAL}, 1: {V: 16}, 2: {V: 32}, 3: {E: api.EINVAL}, 4: {E: api.EINVAL}, 5: {E: api.EINVAL},
	} {
		answers := played(t, newHeap(t, example()), []api.Call{
			{Op: api.OpMalloc, A: 16}, {Op: api.OpMalloc, A: 32}, {Op: api.OpUsable, Ref: ref}, {Op: api.OpMalloc, A: 64},
		})
		wantsAnswer(t, ref, answers[2], want)
		wantsAnswer(t, "the call behind it is done", answers[3], api.Answer{V: 73728})
	}
}

// P12.3: calls that are refused, too, are answers, and the calls behind them are done.
func TestPlayErrors(t *testing.T) {
	h := newHeap(t, example())
	calls := []api.Call{
		{}, {Op: 15}, {Op: api.OpMalloc, Ref: 3}, {Op: api.OpMalloc, A: 8193}, {Op: api.OpMalloc, Ref: 4, A: 1},
		{Op: api.OpRead, Ref: 5, A: 65537}, {Op: api.OpLoad, Ref: 5, P: 16}, {Op: api.OpUsable, Ref: 5},
	}
	want := []api.Answer{
		{E: api.EINVAL}, {E: api.EINVAL}, {E: api.EINVAL}, {E: api.ETOOBIG}, {V: 65536},
		{E: api.ELIMIT}, {E: api.EFAULT}, {V: 16},
	}
	if got := played(t, h, calls); !sameAnswers(got, want) {
		t.Errorf("%+v, not %+v", got, want)
	}
}

// P12.3: Play of calls is One of each, one after the other.
func TestPlayIsOnes(t *testing.T) {
	for seed := range 90 {
		row := numbers(seed)
		c := config(seed%9, 1+seed%4)
		h, other := twins(t, c, seed, seed%2*50)
		_, third := twins(t, c, seed, seed%2*50)
		calls, answers := done(t, h, other, 120, &row)
		if got := played(t, third, calls); !sameAnswers(got, answers) {
			t.Fatalf("%+v, not %+v", got, answers)
		}
		if !sameHeap(h, third) {
			t.Fatal("other heaps")
		}
	}
}
