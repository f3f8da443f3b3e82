package cache

import (
	"croft/api"
	"croft/script"
)

// Play does steps, one after the other.
func (s *Shared) Play(steps []api.Step) ([]api.Answer, api.Errno) {
	s.guard.Lock()
	defer s.guard.Unlock()
	if len(steps) > api.MaxCalls {
		return nil, api.ELIMIT
	}
	var answers []api.Answer
	for _, step := range steps {
		answers = append(answers, s.one(step.Worker, step.Call, answers))
	}
	return answers, api.OK
}

// one does a worker's call; answers are those of the calls ahead. What tells of no new block and takes none is the heap's own call, at an address that is seen.
func (s *Shared) one(worker int, c api.Call, answers []api.Answer) api.Answer {
	p, ok := addressOf(c, answers)
	if !ok || !s.isWorker(worker) {
		return api.Answer{E: api.EINVAL}
	}
	switch c.Op {
	case api.OpMalloc:
		return value(s.request(worker, 1, c.A, c.Deny))
	case api.OpCalloc:
		return value(s.zeros(worker, c.A, c.B, c.Deny))
	case api.OpAligned:
		return value(s.request(worker, c.A, c.B, c.Deny))
	case api.OpRealloc:
		return value(s.resize(worker, p, c.A, c.Deny))
	case api.OpFree:
		return value(0, s.free(worker, p))
	case api.OpTrim, api.OpStats:
		s.drain()
	}
	return script.One(s.heap, api.Call{Op: c.Op, P: s.seen(p), A: c.A, Data: c.Data}, nil)
}

// addressOf tells a call's address, if there is one. The answers are those of one: of an error V is 0.
func addressOf(c api.Call, answers []api.Answer) (uint64, bool) {
	if c.Ref == 0 {
		return c.P, true
	}
	if c.Ref < 0 || c.Ref > len(answers) {
		return 0, false
	}
	return answers[c.Ref-1].V + c.P, true
}

// value is the answer of a call that tells a number.
func value(v uint64, e api.Errno) api.Answer { return api.Answer{E: e, V: v} }
