package dict_test

import (
	"bytes"
	"hash/fnv"
	"math"
	"reflect"
	"slices"
	"strconv"
	"strings"
	"testing"

	"croft/api"
	"croft/dict"
	"croft/malloc"
)

// most is the greatest address.
const most = uint64(math.MaxUint64)

// numbers gives the same long row of numbers each time.
type numbers uint64

func (n *numbers) below(end int) int {
	*n = *n*6364136223846793005 + 1442695040888963407
	return int(uint64(*n) >> 33 % uint64(end))
}

// text tells so many bytes, any of all.
func (n *numbers) text(many int) string {
	list := make([]byte, many)
	for i := range list {
		list[i] = byte(n.below(256))
	}
	return string(list)
}

// oneOf tells one of a list.
func oneOf[T any](row *numbers, list ...T) T { return list[row.below(len(list))] }

// long tells a text of so many bytes that begins like another.
func long(begin string, many int) string {
	return (begin + strings.Repeat("*", max(0, many-len(begin))))[:many]
}

// example is the Config of the chapter's table: R is 8192.
func example() api.Config { return api.Config{Base: 65536, Limit: 4, Order: 1} }

// config is one of an order, with as many regions as may be, up to some.
func config(order, up int) api.Config {
	return api.Config{Base: 1 << 32, Limit: min(up, 64, 1024>>order), Order: order}
}

// regionBytes is R, by doubling.
func regionBytes(c api.Config) int {
	r := 4096
	for range c.Order {
		r += r
	}
	return r
}

// sizeFor is the size for a request; 0, if it is above R.
func sizeFor(c api.Config, size int) uint64 {
	for r := 16; r <= regionBytes(c); r += r {
		if r >= size {
			return uint64(r)
		}
	}
	return 0
}

// hash is a key's, by the library: the chapter's numbers are those of FNV-1a.
func hash(key string) uint64 {
	h := fnv.New64a()
	h.Write([]byte(key))
	return h.Sum64()
}

// keysAt tells so many keys whose place in a row of n is this.
func keysAt(n, place uint64, many int) []string {
	var list []string
	for i := 0; len(list) < many; i++ {
		if key := "k" + strconv.Itoa(i); hash(key)%n == place {
			list = append(list, key)
		}
	}
	return list
}

// keys tells so many.
func keys(many int) []string {
	var list []string
	for i := range many {
		list = append(list, "key"+strconv.Itoa(i))
	}
	return list
}

func newHeap(t *testing.T, c api.Config) *malloc.Heap {
	t.Helper()
	h, e := malloc.New(c)
	if e != api.OK {
		t.Fatalf("malloc.New(%+v): %v", c, e)
	}
	return h
}

func newTable(t *testing.T, h *malloc.Heap) *dict.Table {
	t.Helper()
	x, e := dict.New(h, false)
	if e != api.OK || x == nil {
		t.Fatalf("New: %v, %v", x, e)
	}
	return x
}

// begin is a new table over a new heap.
func begin(t *testing.T, c api.Config) (*dict.Table, *malloc.Heap) {
	t.Helper()
	h := newHeap(t, c)
	return newTable(t, h), h
}

// takes asks the heap for a block that must come.
func takes(t *testing.T, h *malloc.Heap, size uint64) uint64 {
	t.Helper()
	p, e := h.Malloc(size, false)
	if e != api.OK {
		t.Fatalf("the heap's Malloc(%d): %v", size, e)
	}
	return p
}

// fills takes all that is left for blocks of a size, and tells them.
func fills(h *malloc.Heap, size uint64, deny bool) []uint64 {
	var list []uint64
	for p, e := h.Malloc(size, deny); e == api.OK; p, e = h.Malloc(size, deny) {
		list = append(list, p)
	}
	return list
}

// set is Set of texts.
func set(x *dict.Table, key, value string, deny bool) api.Errno {
	return x.Set([]byte(key), []byte(value), deny)
}

func wantsError(t *testing.T, what any, got, want api.Errno) {
	t.Helper()
	if got != want {
		t.Fatalf("%v: %v, not %v", what, got, want)
	}
}

func short(text string) string {
	if len(text) > 40 {
		return strconv.Quote(text[:40]) + " .. of " + strconv.Itoa(len(text))
	}
	return strconv.Quote(text)
}

// sets lets a key have a value that must be taken.
func sets(t *testing.T, x *dict.Table, key, value string) {
	t.Helper()
	if e := set(x, key, value, false); e != api.OK {
		t.Fatalf("Set(%s, %s): %v", short(key), short(value), e)
	}
}

// setsAll lets keys have values that tell them.
func setsAll(t *testing.T, x *dict.Table, keys ...string) {
	t.Helper()
	for _, key := range keys {
		sets(t, x, key, "="+key)
	}
}

func deletes(t *testing.T, x *dict.Table, keys ...string) {
	t.Helper()
	for _, key := range keys {
		if !x.Delete([]byte(key)) {
			t.Fatalf("Delete(%s): false", short(key))
		}
	}
}

func wantsGet(t *testing.T, x *dict.Table, key, want string) {
	t.Helper()
	if got, is := x.Get([]byte(key)); !is || string(got) != want {
		t.Fatalf("Get(%s): %s, %v; not %s", short(key), short(string(got)), is, short(want))
	}
}

// wantsNone asks that keys are not there, and that nothing changes when one asks.
func wantsNone(t *testing.T, x *dict.Table, h *malloc.Heap, keys ...string) {
	t.Helper()
	unchanged(t, "a key that is not there", x, h, func() {
		t.Helper()
		for _, key := range keys {
			if got, is := x.Get([]byte(key)); is || len(got) != 0 {
				t.Fatalf("Get(%s): %s, %v", short(key), short(string(got)), is)
			}
			if x.Delete([]byte(key)) {
				t.Fatalf("Delete(%s): true", short(key))
			}
		}
	})
}

// pair is a key with its value.
type pair struct{ key, value string }

// all tells what a range over a table gives.
func all(x *dict.Table) []pair {
	var list []pair
	for key, value := range x.All() {
		list = append(list, pair{string(key), string(value)})
	}
	return list
}

// wantsAll asks for what stands in a table, and in which order: by All, by Get and by Len.
func wantsAll(t *testing.T, x *dict.Table, want ...pair) {
	t.Helper()
	if got := all(x); !slices.Equal(got, want) {
		t.Fatalf("All: %q, not %q", got, want)
	}
	if got := x.Len(); got != len(want) {
		t.Fatalf("Len: %d, not %d", got, len(want))
	}
	for _, one := range want {
		wantsGet(t, x, one.key, one.value)
	}
}

// wantsKeys is wantsAll of keys with the values that setsAll has given.
func wantsKeys(t *testing.T, x *dict.Table, keys ...string) {
	t.Helper()
	var want []pair
	for _, key := range keys {
		want = append(want, pair{key, "=" + key})
	}
	wantsAll(t, x, want...)
}

func wantsLive(t *testing.T, h *malloc.Heap, want ...api.Block) {
	t.Helper()
	if got := h.Live(); !slices.Equal(got, want) {
		t.Fatalf("the heap's Live: %v, not %v", got, want)
	}
}

// word reads one that must be there.
func word(t *testing.T, h *malloc.Heap, p uint64) uint64 {
	t.Helper()
	v, e := h.LoadWord(p)
	if e != api.OK {
		t.Fatalf("the word at %d: %v", p, e)
	}
	return v
}

// wantsWords asks what words lie from p on.
func wantsWords(t *testing.T, what any, h *malloc.Heap, p uint64, want ...uint64) {
	t.Helper()
	for i, v := range want {
		if got := word(t, h, p+uint64(8*i)); got != v {
			t.Fatalf("%v: the word %d at %d: %d, not %d", what, i, p, got, v)
		}
	}
}

// wantsEntry asks for the five words of an entry, and the bytes behind them.
func wantsEntry(t *testing.T, h *malloc.Heap, p, next, ahead, behind uint64, key, value string) {
	t.Helper()
	wantsWords(t, "the entry of "+short(key), h, p, next, ahead, behind, uint64(len(key)), uint64(len(value)))
	got, e := h.Read(p+40, uint64(len(key)+len(value)))
	if e != api.OK || string(got) != key+value {
		t.Fatalf("the entry of %s holds %s, %v", short(key), short(string(got)), e)
	}
}

// state is all that can be seen of a table and its heap by calls that change nothing.
type state struct {
	keys  int
	pairs []pair
	heap  api.Image
}

func stateOf(x *dict.Table, h *malloc.Heap) state { return state{x.Len(), all(x), h.Image()} }

// unchanged asks that something changes nothing.
func unchanged(t *testing.T, what any, x *dict.Table, h *malloc.Heap, do func()) {
	t.Helper()
	was := stateOf(x, h)
	do()
	if !reflect.DeepEqual(stateOf(x, h), was) {
		t.Fatalf("%v has changed something", what)
	}
}

// refusesSet asks that a Set is refused, and changes nothing.
func refusesSet(t *testing.T, x *dict.Table, h *malloc.Heap, key, value string, deny bool, want api.Errno) {
	t.Helper()
	unchanged(t, "a refused Set", x, h, func() {
		t.Helper()
		if got := set(x, key, value, deny); got != want {
			t.Fatalf("Set(%s, %s, %v): %v, not %v", short(key), short(value), deny, got, want)
		}
	})
}

// panics says whether something does.
func panics(do func()) (is bool) {
	defer func() { is = recover() != nil }()
	do()
	return false
}

// same asks that bytes are these.
func same(t *testing.T, what any, got, want []byte) {
	t.Helper()
	if !bytes.Equal(got, want) {
		t.Fatalf("%v: %s, not %s", what, short(string(got)), short(string(want)))
	}
}
