package cache

import (
	"sync"
	"sync/atomic"

	"croft/api"
)

// storm is what the workers of one Storm have in common. Others wait at the guard of Shared meanwhile: so nothing comes between what a Storm tells.
type storm struct {
	shared      *Shared
	start, stop chan struct{}
	told        chan api.Done // it has room for all calls: who tells one never waits
	turn        sync.Mutex
	atWork      atomic.Int64
	all         sync.WaitGroup
}

// Storm lets each worker do its script, side by side, and tells what was done in the order in which it was done.
func (s *Shared) Storm(scripts [][]api.Call) ([]api.Done, api.Errno) {
	s.guard.Lock()
	defer s.guard.Unlock()
	if len(scripts) > len(s.hands) {
		return nil, api.EINVAL
	}
	st := &storm{shared: s, start: make(chan struct{}), stop: make(chan struct{})}
	count := 0
	for worker, calls := range scripts {
		if len(calls) > api.MaxCalls {
			close(st.stop)
			st.all.Wait()
			return nil, api.ELIMIT
		}
		st.send(worker, calls)
		count += len(calls)
	}
	return st.run(count), api.OK
}

// send lets a worker wait for the start, or for the stop if a script behind its own may not be.
func (st *storm) send(worker int, calls []api.Call) {
	st.all.Add(1)
	go func() {
		defer st.all.Done()
		select {
		case <-st.start:
			st.work(worker, calls)
		case <-st.stop:
		}
	}()
}

// run starts the workers, who have so many calls in all, and tells what they did.
func (st *storm) run(count int) []api.Done {
	st.told = make(chan api.Done, count)
	close(st.start)
	st.all.Wait()
	close(st.told)
	var list []api.Done
	for done := range st.told {
		list = append(list, done)
	}
	return list
}

// work does a worker's calls, turn by turn.
func (st *storm) work(worker int, calls []api.Call) {
	st.atWork.Add(1)
	defer st.atWork.Add(-1)
	var answers []api.Answer
	for len(answers) < len(calls) {
		answers = st.takeTurn(worker, calls, answers)
	}
}

// takeTurn does a worker's next call, and goes on as long as no other worker is at work: nobody waits for the turn then. A call is told ahead of the turn's end: so they are told in the order in which they are done.
func (st *storm) takeTurn(worker int, calls []api.Call, answers []api.Answer) []api.Answer {
	st.turn.Lock()
	defer st.turn.Unlock()
	for number := len(answers); number < len(calls); number++ {
		answer := st.shared.one(worker, calls[number], answers)
		answers = append(answers, answer)
		st.told <- api.Done{Worker: worker, Number: number, Answer: answer}
		if st.atWork.Load() > 1 {
			break
		}
	}
	return answers
}
