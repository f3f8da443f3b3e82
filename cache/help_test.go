package cache_test

import (
	"bytes"
	"reflect"
	"slices"
	"testing"

	"croft/api"
	"croft/cache"
)

// numbers gives the same long row of numbers each time.
type numbers uint64

func (n *numbers) below(end int) int {
	*n = *n*6364136223846793005 + 1442695040888963407
	return int(uint64(*n) >> 33 % uint64(end))
}

// word tells one of 64 bits.
func (n *numbers) word() uint64 {
	return uint64(n.below(1<<31))<<33 ^ uint64(n.below(1<<31))<<11 ^ uint64(n.below(1<<31))
}

// bytes tells so many.
func (n *numbers) bytes(count int) []byte {
	list := make([]byte, count)
	for i := range list {
		list[i] = byte(n.below(256))
	}
	return list
}

// size tells one that a region has, most often, and as often a small one as a greater.
func (n *numbers) size(c api.Config) uint64 {
	r := uint64(8) << n.below(11+c.Order)
	if n.below(3) == 0 {
		r = 8 << n.below(9)
	}
	return r - uint64(n.below(2)*n.below(int(r)))
}

// oneOf tells one of a list.
func oneOf[T any](row *numbers, list ...T) T { return list[row.below(len(list))] }

// ops tells all that there are.
func ops() []int {
	var list []int
	for op := api.OpMalloc; op <= api.OpStats; op++ {
		list = append(list, op)
	}
	return list
}

// noOps tells some that are none.
func noOps() []int { return []int{0, -1, -14, api.OpStats + 1, 1 << 32, 1<<63 - 1, -1 << 63} }

// noWorkers tells some numbers that are no worker's.
func noWorkers(workers int) []int {
	return []int{-1, -workers, workers, workers + 1, 16, 17, 1 << 32, 1<<63 - 1, -1 << 63}
}

// edges tells numbers at which something may change.
func edges() []uint64 {
	return []uint64{0, 1, 15, 16, 17, 255, 256, 2048, 2049, 4095, 4096, 4097, 8192, 8193, 65535, 65536, 65537, 1 << 32, 1<<63 - 1, 1 << 63, 1<<63 + 1, 1<<64 - 2, 1<<64 - 1}
}

// smallSizes are those of the classes, from the least up.
func smallSizes() []uint64 { return []uint64{16, 32, 64, 128, 256, 512, 1024, 2048} }

// example is the Config of the chapter's table: R is 8192.
func example() api.Config { return api.Config{Base: 65536, Limit: 2, Order: 1} }

// config is one of an order, with as many regions as may be, up to most.
func config(order, most int) api.Config {
	return api.Config{Base: 1 << 32, Limit: min(most, 64, 1024>>order), Order: order}
}

// regionBytes is R, by doubling.
func regionBytes(c api.Config) uint64 {
	r := uint64(4096)
	for range c.Order {
		r += r
	}
	return r
}

func newShared(t *testing.T, c api.Config, workers, depth int) *cache.Shared {
	t.Helper()
	s, e := cache.New(c, workers, depth)
	if s == nil || e != api.OK {
		t.Fatalf("New(%+v, %d, %d): %v, %v", c, workers, depth, s, e)
	}
	return s
}

// answer is what most calls answer.
type answer struct {
	p uint64
	e api.Errno
}

// told makes an answer of what a call answered.
func told(p uint64, e api.Errno) answer { return answer{p, e} }

func wants(t *testing.T, what any, got, want answer) {
	t.Helper()
	if got != want {
		t.Fatalf("%v: %v, not %v", what, got, want)
	}
}

func wantsError(t *testing.T, what any, got, want api.Errno) {
	t.Helper()
	if got != want {
		t.Fatalf("%v: %v, not %v", what, got, want)
	}
}

// takes tells the addresses of count new blocks of a size.
func takes(t *testing.T, s *cache.Shared, worker int, size uint64, count int) []uint64 {
	t.Helper()
	var list []uint64
	for range count {
		p, e := s.Malloc(worker, size, false)
		wantsError(t, "Malloc", e, api.OK)
		list = append(list, p)
	}
	return list
}

// frees gives blocks back, one after the other.
func frees(t *testing.T, s *cache.Shared, worker int, list ...uint64) {
	t.Helper()
	for _, p := range list {
		wantsError(t, "Free", s.Free(worker, p), api.OK)
	}
}

// wantsKept asks how many blocks of each class a worker has at hand; what is left out is 0.
func wantsKept(t *testing.T, s *cache.Shared, worker int, counts ...int) {
	t.Helper()
	want := append(counts, make([]int, 8-len(counts))...)
	if got := s.Kept(worker); !slices.Equal(got, want) {
		t.Fatalf("Kept(%d): %v, not %v", worker, got, want)
	}
}

func wantsLive(t *testing.T, s *cache.Shared, want ...api.Block) {
	t.Helper()
	if got := s.Live(); !slices.Equal(got, want) {
		t.Fatalf("Live: %v, not %v", got, want)
	}
}

// state is what can be seen of a Shared without a change.
type state struct {
	kept [][]int
	live []api.Block
	held [][]byte
}

func stateOf(s *cache.Shared) state {
	is := state{live: s.Live()}
	for worker := range 16 {
		is.kept = append(is.kept, s.Kept(worker))
	}
	for _, b := range is.live {
		held, _ := s.Read(b.P, b.Size)
		is.held = append(is.held, held)
	}
	return is
}

// sameOut says whether the same blocks are handed out, with the same bytes.
func sameOut(one, other state) bool {
	return slices.Equal(one.live, other.live) && slices.EqualFunc(one.held, other.held, bytes.Equal)
}

func sameState(one, other state) bool {
	return sameOut(one, other) && slices.EqualFunc(one.kept, other.kept, slices.Equal[[]int])
}

// unchanged asks that something changes nothing at all, not even what is at hand.
func unchanged(t *testing.T, what any, s *cache.Shared, do func()) {
	t.Helper()
	ahead := stateOf(s)
	do()
	if !sameState(stateOf(s), ahead) {
		t.Fatalf("%v is refused, and has changed something", what)
	}
}

// sameAnswer says whether two are one; so are nil and an empty list.
func sameAnswer(one, other api.Answer) bool {
	return one.E == other.E && one.V == other.V && bytes.Equal(one.Data, other.Data) && one.Stats == other.Stats
}

func sameAnswers(one, other []api.Answer) bool { return slices.EqualFunc(one, other, sameAnswer) }

func wantsAnswer(t *testing.T, what any, got, want api.Answer) {
	t.Helper()
	if !sameAnswer(got, want) {
		t.Fatalf("%+v: %+v, not %+v", what, got, want)
	}
}

// played tells what steps answer that are not too many.
func played(t *testing.T, s *cache.Shared, steps ...api.Step) []api.Answer {
	t.Helper()
	answers, e := s.Play(steps)
	if e != api.OK || len(answers) != len(steps) {
		t.Fatalf("Play of %d steps: %d answers, %v", len(steps), len(answers), e)
	}
	return answers
}

// stormed tells what a Storm of scripts did that may be.
func stormed(t *testing.T, s *cache.Shared, scripts [][]api.Call) []api.Done {
	t.Helper()
	log, e := s.Storm(scripts)
	count := 0
	for _, calls := range scripts {
		count += len(calls)
	}
	if e != api.OK || len(log) != count {
		t.Fatalf("Storm of %d calls: %d, %v", count, len(log), e)
	}
	return log
}

// span is where a list lies, spare room too.
type span struct{ from, to uintptr }

// spanOf tells none of a list without room.
func spanOf[T any](list []T) []span {
	if cap(list) == 0 {
		return nil
	}
	is := reflect.ValueOf(list)
	return []span{{is.Pointer(), is.Pointer() + uintptr(cap(list))*is.Type().Elem().Size()}}
}

// wantsApart asks that no two of these share a byte.
func wantsApart(t *testing.T, what string, spans ...[]span) {
	t.Helper()
	all := slices.Concat(spans...)
	for i, one := range all {
		for _, other := range all[:i] {
			if one.from < other.to && other.from < one.to {
				t.Fatalf("%s: two lists share memory", what)
			}
		}
	}
}
