package cache_test

import (
	"testing"

	"croft/api"
)

// The table, line by line: the calls go on from one another.
func TestExample(t *testing.T) {
	s := newShared(t, example(), 2, 1)
	wants(t, "the first", told(s.Malloc(0, 1, false)), answer{65536, api.OK})
	wants(t, "the second", told(s.Malloc(1, 1, false)), answer{65552, api.OK})
	wants(t, "a worker that is none", told(s.Malloc(2, 1, false)), answer{0, api.EINVAL})

	wantsError(t, "Free", s.Free(0, 65536), api.OK)
	wantsKept(t, s, 0, 1)
	wantsLive(t, s, api.Block{P: 65552, Size: 16})

	held, e := s.Read(65536, 1)
	if len(held) != 0 || e != api.EFAULT {
		t.Errorf("Read: %v, %v", held, e)
	}
	wants(t, "UsableSize", told(s.UsableSize(65536)), answer{0, api.EINVAL})
	wantsError(t, "Free once more", s.Free(1, 65536), api.EINVAL)

	wants(t, "the other worker has none", told(s.Malloc(1, 1, false)), answer{65568, api.OK})
	wants(t, "this one has it", told(s.Malloc(0, 1, false)), answer{65536, api.OK})

	frees(t, s, 1, 65552, 65568)
	frees(t, s, 0, 65536)
	if got := s.Stats(); got != (api.Stats{H: 8192, L: 0, Blocks: 0, FreePages: 2}) {
		t.Errorf("Stats: %+v", got)
	}

	wants(t, "a new one", told(s.Malloc(0, 1, false)), answer{65536, api.OK})
	wantsError(t, "Free", s.Free(0, 65536), api.OK)
	wants(t, "both pages", told(s.AlignedAlloc(1, 8192, 1, true)), answer{65536, api.OK})
	wantsKept(t, s, 0)
	wantsLive(t, s, api.Block{P: 65536, Size: 8192})
}

// The table once more, as steps.
func TestExampleAsSteps(t *testing.T) {
	s := newShared(t, example(), 2, 1)
	got := played(t, s,
		api.Step{Worker: 0, Call: api.Call{Op: api.OpMalloc, A: 1}},
		api.Step{Worker: 1, Call: api.Call{Op: api.OpMalloc, A: 1}},
		api.Step{Worker: 2, Call: api.Call{Op: api.OpMalloc, A: 1}},
		api.Step{Worker: 0, Call: api.Call{Op: api.OpFree, Ref: 1}},
		api.Step{Worker: 1, Call: api.Call{Op: api.OpLoad, Ref: 1}},
		api.Step{Worker: 1, Call: api.Call{Op: api.OpUsable, Ref: 1}},
		api.Step{Worker: 1, Call: api.Call{Op: api.OpFree, Ref: 1}},
		api.Step{Worker: 1, Call: api.Call{Op: api.OpMalloc, A: 1}},
		api.Step{Worker: 0, Call: api.Call{Op: api.OpMalloc, A: 1}},
		api.Step{Worker: 1, Call: api.Call{Op: api.OpFree, Ref: 2}},
		api.Step{Worker: 1, Call: api.Call{Op: api.OpFree, Ref: 8}},
		api.Step{Worker: 0, Call: api.Call{Op: api.OpFree, Ref: 9}},
		api.Step{Worker: 0, Call: api.Call{Op: api.OpStats}},
		api.Step{Worker: 0, Call: api.Call{Op: api.OpMalloc, A: 1}},
		api.Step{Worker: 0, Call: api.Call{Op: api.OpFree, Ref: 14}},
		api.Step{Worker: 1, Call: api.Call{Op: api.OpAligned, A: 8192, B: 1, Deny: true}},
	)
	want := []api.Answer{
		{V: 65536}, {V: 65552}, {E: api.EINVAL}, {}, {E: api.EFAULT}, {E: api.EINVAL}, {E: api.EINVAL},
		{V: 65568}, {V: 65536}, {}, {}, {}, {Stats: api.Stats{H: 8192, FreePages: 2}},
		{V: 65536}, {}, {V: 65536},
	}
	if !sameAnswers(got, want) {
		t.Errorf("%+v, not %+v", got, want)
	}
}
