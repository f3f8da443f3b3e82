package count_test

import (
	"bytes"
	"math"
	"reflect"
	"slices"
	"testing"

	"croft/api"
	"croft/count"
	"croft/malloc"
)

// most is the greatest address, top the greatest int and bottom the least one.
const (
	most   = uint64(math.MaxUint64)
	top    = math.MaxInt
	bottom = math.MinInt
)

// numbers gives the same long row of numbers each time.
type numbers uint64

func (n *numbers) below(end int) int {
	*n = *n*6364136223846793005 + 1442695040888963407
	return int(uint64(*n) >> 33 % uint64(end))
}

// bytes tells so many.
func (n *numbers) bytes(many int) []byte {
	list := make([]byte, many)
	for i := range list {
		list[i] = byte(n.below(256))
	}
	return list
}

// form tells how many words and bytes an object may have, most often few.
func (n *numbers) form(c api.Config) (words, bytes int) {
	switch n.below(10) {
	case 0:
		return n.below(int(regionBytes(c)/8) + 2), n.below(20)
	case 1:
		return n.below(5), n.below(int(regionBytes(c)) + 20)
	case 2:
		return n.below(520), n.below(100)
	}
	return n.below(5), n.below(3) * n.below(40)
}

// oneOf tells one of a list.
func oneOf[T any](row *numbers, list ...T) T { return list[row.below(len(list))] }

// edges tells numbers at which something may change.
func edges() []int {
	return []int{bottom, bottom + 1, -1 << 32, -4096, -8, -2, -1, 0, 1, 2, 7, 8, 9, 15, 16, 17, 511, 512, 513, 4095, 4096, 4097, 65536, 1 << 17, 1<<17 + 1, 1 << 20, 1<<20 + 1, 1 << 32, 1<<60 - 1, 1 << 60, 1<<60 + 1, 1 << 61, 1<<61 + 1, 1 << 62, top - 7, top - 1, top}
}

// example is the Config of the chapter's table: R is 4096.
func example() api.Config { return api.Config{Base: 65536, Limit: 1, Order: 0} }

// config is one of an order, with as many regions as may be, up to some.
func config(order, up int) api.Config {
	return api.Config{Base: 1 << 32, Limit: min(up, 64, 1024>>order), Order: order}
}

// regionBytes is R, by doubling.
func regionBytes(c api.Config) uint64 {
	r := uint64(4096)
	for range c.Order {
		r += r
	}
	return r
}

// sizeFor is the size for a request; 0, if it is above R.
func sizeFor(c api.Config, size uint64) uint64 {
	for r := uint64(16); r <= regionBytes(c); r += r {
		if r >= size {
			return r
		}
	}
	return 0
}

func newHeap(t *testing.T, c api.Config) *malloc.Heap {
	t.Helper()
	h, e := malloc.New(c)
	if e != api.OK {
		t.Fatalf("malloc.New(%+v): %v", c, e)
	}
	return h
}

// begin is a new store over a new heap.
func begin(t *testing.T, c api.Config) (*count.Store, *malloc.Heap) {
	t.Helper()
	h := newHeap(t, c)
	return count.New(h), h
}

// answer is what Make, Get and the heap's requests answer.
type answer struct {
	p uint64
	e api.Errno
}

// told makes an answer of what a call answered.
func told(p uint64, e api.Errno) answer { return answer{p, e} }

func wants(t *testing.T, what any, got, want answer) {
	t.Helper()
	if got != want {
		t.Fatalf("%v: %v, not %v", what, got, want)
	}
}

func wantsError(t *testing.T, what any, got, want api.Errno) {
	t.Helper()
	if got != want {
		t.Fatalf("%v: %v, not %v", what, got, want)
	}
}

// makes tells a new object that must come.
func makes(t *testing.T, s *count.Store, words, bytes int) uint64 {
	t.Helper()
	p, e := s.Make(words, bytes, false)
	if e != api.OK {
		t.Fatalf("Make(%d, %d): %v", words, bytes, e)
	}
	return p
}

// makesMany tells so many of a form.
func makesMany(t *testing.T, s *count.Store, many, words, bytes int) []uint64 {
	t.Helper()
	var list []uint64
	for range many {
		list = append(list, makes(t, s, words, bytes))
	}
	return list
}

func puts(t *testing.T, s *count.Store, object uint64, word int, to uint64) {
	t.Helper()
	if e := s.Put(object, word, to); e != api.OK {
		t.Fatalf("Put(%d, %d, %d): %v", object, word, to, e)
	}
}

// chains lets the word 0 of each object refer to the next one.
func chains(t *testing.T, s *count.Store, list ...uint64) {
	t.Helper()
	for i, p := range list[1:] {
		puts(t, s, list[i], 0, p)
	}
}

// hangs lets a word alone keep an object that is kept by hand once.
func hangs(t *testing.T, s *count.Store, object uint64, word int, to uint64) {
	t.Helper()
	puts(t, s, object, word, to)
	drops(t, s, to)
}

// hangsChain lets each object be kept by the word 0 of the one ahead alone; the first one stays kept by hand.
func hangsChain(t *testing.T, s *count.Store, list ...uint64) {
	t.Helper()
	for i, p := range list[1:] {
		hangs(t, s, list[i], 0, p)
	}
}

func writes(t *testing.T, s *count.Store, object uint64, at int, b []byte) {
	t.Helper()
	if e := s.Write(object, at, b); e != api.OK {
		t.Fatalf("Write(%d, %d, %d bytes): %v", object, at, len(b), e)
	}
}

func keeps(t *testing.T, s *count.Store, objects ...uint64) {
	t.Helper()
	for _, p := range objects {
		if e := s.Keep(p); e != api.OK {
			t.Fatalf("Keep(%d): %v", p, e)
		}
	}
}

func drops(t *testing.T, s *count.Store, objects ...uint64) {
	t.Helper()
	for _, p := range objects {
		if e := s.Drop(p); e != api.OK {
			t.Fatalf("Drop(%d): %v", p, e)
		}
	}
}

func wantsWord(t *testing.T, s *count.Store, object uint64, word int, want uint64) {
	t.Helper()
	if got, e := s.Get(object, word); got != want || e != api.OK {
		t.Fatalf("Get(%d, %d): %d, %v; not %d", object, word, got, e, want)
	}
}

// wantsBytes asks what lies from a place of an object's bytes on.
func wantsBytes(t *testing.T, s *count.Store, object uint64, at int, want []byte) {
	t.Helper()
	if got, e := s.Read(object, at, len(want)); e != api.OK || !bytes.Equal(got, want) {
		t.Fatalf("Read(%d, %d, %d): %v, %v; not %v", object, at, len(want), got, e, want)
	}
}

// wantsCount asks for the count of each of some objects.
func wantsCount(t *testing.T, s *count.Store, want int, objects ...uint64) {
	t.Helper()
	for _, p := range objects {
		if got, e := s.Count(p); got != want || e != api.OK {
			t.Fatalf("Count(%d): %d, %v; not %d", p, got, e, want)
		}
	}
}

func wantsObjects(t *testing.T, s *count.Store, want ...uint64) {
	t.Helper()
	if got := s.Objects(); !slices.Equal(got, want) {
		t.Fatalf("Objects: %v, not %v", got, want)
	}
}

// wantsSwept does a collection, and asks what it tells.
func wantsSwept(t *testing.T, s *count.Store, freed int, bytes uint64) {
	t.Helper()
	if got := s.Collect(); got.Freed != freed || got.Bytes != bytes || len(got.Due) != 0 {
		t.Fatalf("Collect: %+v, not {%d [] %d}", got, freed, bytes)
	}
}

func wantsLive(t *testing.T, h *malloc.Heap, want ...api.Block) {
	t.Helper()
	if got := h.Live(); !slices.Equal(got, want) {
		t.Fatalf("the heap's Live: %v, not %v", got, want)
	}
}

// state is all that can be seen of a store and its heap by calls that change nothing.
type state struct {
	objects []uint64
	counts  []int
	heap    api.Image
}

func stateOf(s *count.Store, h *malloc.Heap) state {
	now := state{objects: s.Objects(), heap: h.Image()}
	for _, p := range now.objects {
		n, _ := s.Count(p)
		now.counts = append(now.counts, n)
	}
	return now
}

// unchanged asks that something changes nothing.
func unchanged(t *testing.T, what any, s *count.Store, h *malloc.Heap, do func()) {
	t.Helper()
	ahead := stateOf(s, h)
	do()
	if !reflect.DeepEqual(stateOf(s, h), ahead) {
		t.Fatalf("%v has changed something", what)
	}
}

// refusesMake asks that a Make is refused, and changes nothing.
func refusesMake(t *testing.T, s *count.Store, h *malloc.Heap, words, bytes int, deny bool, want api.Errno) {
	t.Helper()
	unchanged(t, "Make", s, h, func() {
		t.Helper()
		if got := told(s.Make(words, bytes, deny)); got != (answer{0, want}) {
			t.Fatalf("Make(%d, %d, %v): %v, not %v", words, bytes, deny, got, want)
		}
	})
}

// refusesWord asks that an object has no such word, and that nothing changes when one asks.
func refusesWord(t *testing.T, s *count.Store, h *malloc.Heap, object uint64, words ...int) {
	t.Helper()
	for _, word := range words {
		unchanged(t, "a word that is none", s, h, func() {
			t.Helper()
			wants(t, "Get", told(s.Get(object, word)), answer{0, api.EINVAL})
			wantsError(t, "Put", s.Put(object, word, 0), api.EINVAL)
			wantsError(t, "Put", s.Put(object, word, object), api.EINVAL)
			wantsError(t, "Put", s.Put(object, word, most), api.EINVAL)
		})
	}
}

// refusesPut asks that a word can't refer there.
func refusesPut(t *testing.T, s *count.Store, h *malloc.Heap, object uint64, word int, to ...uint64) {
	t.Helper()
	for _, p := range to {
		unchanged(t, "Put", s, h, func() {
			t.Helper()
			if e := s.Put(object, word, p); e != api.EINVAL {
				t.Fatalf("Put(%d, %d, %d): %v", object, word, p, e)
			}
		})
	}
}

// refusesBytes asks that an object has no such bytes.
func refusesBytes(t *testing.T, s *count.Store, h *malloc.Heap, object uint64, at, n int, want api.Errno) {
	t.Helper()
	unchanged(t, "bytes that are none", s, h, func() {
		t.Helper()
		if got, e := s.Read(object, at, n); len(got) != 0 || e != want {
			t.Fatalf("Read(%d, %d, %d): %d bytes, %v; not %v", object, at, n, len(got), e, want)
		}
		if 0 <= n && n < 1<<21 {
			if e := s.Write(object, at, bytes.Repeat([]byte{0xa5}, n)); e != want {
				t.Fatalf("Write(%d, %d, %d bytes): %v, not %v", object, at, n, e, want)
			}
		}
	})
}

// refusesObject asks that no call takes these for objects, whatever else it is given.
func refusesObject(t *testing.T, s *count.Store, h *malloc.Heap, list ...uint64) {
	t.Helper()
	for _, p := range list {
		for _, n := range []int{0, 1, -1, 16, top, bottom} {
			refusesWord(t, s, h, p, n)
			for _, at := range []int{0, 1, -1, top, bottom} {
				refusesBytes(t, s, h, p, at, n, api.EINVAL)
			}
		}
		unchanged(t, "an object that is none", s, h, func() {
			t.Helper()
			wantsError(t, "Keep", s.Keep(p), api.EINVAL)
			wantsError(t, "Drop", s.Drop(p), api.EINVAL)
			if got, e := s.Count(p); got != 0 || e != api.EINVAL {
				t.Fatalf("Count(%d): %d, %v", p, got, e)
			}
		})
	}
}

// refusesDrop asks that an object is not kept by hand.
func refusesDrop(t *testing.T, s *count.Store, h *malloc.Heap, list ...uint64) {
	t.Helper()
	for _, p := range list {
		unchanged(t, "Drop", s, h, func() {
			t.Helper()
			if e := s.Drop(p); e != api.ESTATE {
				t.Fatalf("Drop(%d): %v", p, e)
			}
		})
	}
}

// noObjects tells addresses that are no object's, whatever stands: those around some that are, too.
func noObjects(objects ...uint64) []uint64 {
	list := []uint64{0, 1, 8, 16, 4095, 1 << 62, 1 << 63, most - 15, most}
	for _, p := range objects {
		list = append(list, p+1, p+8, p+15, p-1, p-15, p+1<<63)
	}
	return list
}
