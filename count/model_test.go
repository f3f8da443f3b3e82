package count_test

import (
	"bytes"
	"cmp"
	"math/big"
	"reflect"
	"slices"
	"testing"

	"croft/api"
	"croft/count"
	"croft/malloc"
)

// thing is an object, as a plain list of words and one of bytes.
type thing struct {
	p     uint64
	words []uint64
	bytes []byte
	kept  int // by hand
}

// book is a store by the chapter's words: on a heap it does just the calls that the chapter says, and keeps the objects in the order in which they were made.
type book struct {
	h    *malloc.Heap
	made []*thing
	gone []uint64 // addresses of objects that went
}

// find tells an object, or nil.
func (k *book) find(p uint64) *thing {
	for _, o := range k.made {
		if o.p == p {
			return o
		}
	}
	return nil
}

// make is P18.1.
func (k *book) make(words, bytes int, deny bool) answer {
	if words < 0 || bytes < 0 {
		return answer{0, api.EINVAL}
	}
	exact := big.NewInt(int64(words))
	exact.Add(exact.Mul(exact, big.NewInt(8)), big.NewInt(int64(bytes)))
	if exact.Cmp(new(big.Int).SetUint64(regionBytes(k.h.Config()))) > 0 {
		return answer{0, api.ETOOBIG}
	}
	got := told(k.h.Calloc(1, exact.Uint64(), deny))
	if got.e == api.OK {
		k.made = append(k.made, &thing{p: got.p, words: make([]uint64, words), bytes: make([]byte, bytes), kept: 1})
	}
	return got
}

// get is P18.2, and so is put.
func (k *book) get(p uint64, word int) answer {
	o := k.find(p)
	if o == nil || word < 0 || word >= len(o.words) {
		return answer{0, api.EINVAL}
	}
	return answer{o.words[word], api.OK}
}

func (k *book) put(p uint64, word int, to uint64) api.Errno {
	if k.get(p, word).e != api.OK || to != 0 && k.find(to) == nil {
		return api.EINVAL
	}
	o := k.find(p)
	was := k.find(o.words[word])
	o.words[word] = to
	for i := range 8 { // and by bytes in the heap, the lowest first
		k.h.Store(p+uint64(8*word+i), byte(to>>(8*i)))
	}
	if was != nil && k.count(was) == 0 {
		k.goes(was)
	}
	return api.OK
}

// count tells how many times an object is kept by hand, and how many words of objects refer to it.
func (k *book) count(o *thing) int { return k.counted()[o.p] }

// counted tells each object's count: every word of every object is looked at.
func (k *book) counted() map[uint64]int {
	all := map[uint64]int{}
	for _, o := range k.made {
		all[o.p] += o.kept
		for _, to := range o.words {
			if to != 0 {
				all[to]++
			}
		}
	}
	return all
}

// goes is the chapter's: the words of what is taken off the list refer to nothing any more, one by one.
func (k *book) goes(o *thing) {
	list := []*thing{o}
	for len(list) > 0 {
		first := list[0]
		list = list[1:]
		for word, p := range first.words {
			first.words[word] = 0
			if to := k.find(p); to != nil && k.count(to) == 0 {
				list = append(list, to)
			}
		}
		k.frees(first)
	}
}

// frees lets an object be none any more.
func (k *book) frees(o *thing) {
	k.h.Free(o.p)
	k.gone = append(k.gone, o.p)
	k.made = slices.DeleteFunc(k.made, func(one *thing) bool { return one == o })
}

// read is P18.3, and so is write.
func (k *book) read(p uint64, at, n int) ([]byte, api.Errno) {
	o := k.find(p)
	if o == nil {
		return nil, api.EINVAL
	}
	end := new(big.Int).Add(big.NewInt(int64(at)), big.NewInt(int64(n)))
	if at < 0 || n < 0 || end.Cmp(big.NewInt(int64(len(o.bytes)))) > 0 {
		return nil, api.EFAULT
	}
	return slices.Clone(o.bytes[at : at+n]), api.OK
}

func (k *book) write(p uint64, at int, b []byte) api.Errno {
	if _, e := k.read(p, at, len(b)); e != api.OK {
		return e
	}
	o := k.find(p)
	copy(o.bytes[at:], b)
	k.h.Write(p+uint64(8*len(o.words)), o.bytes)
	return api.OK
}

// keep is P18.4, and so are drop and counts.
func (k *book) keep(p uint64) api.Errno {
	if k.find(p) == nil {
		return api.EINVAL
	}
	k.find(p).kept++
	return api.OK
}

func (k *book) drop(p uint64) api.Errno {
	o := k.find(p)
	if o == nil {
		return api.EINVAL
	}
	if o.kept == 0 {
		return api.ESTATE
	}
	o.kept--
	if k.count(o) == 0 {
		k.goes(o)
	}
	return api.OK
}

func (k *book) counts(p uint64) (int, api.Errno) {
	if k.find(p) == nil {
		return 0, api.EINVAL
	}
	return k.count(k.find(p)), api.OK
}

// reached tells those that are kept by hand, and all to which a word of a reached one refers, till there is none more.
func (k *book) reached() map[uint64]bool {
	all := map[uint64]bool{}
	for _, o := range k.made {
		if o.kept > 0 {
			all[o.p] = true
		}
	}
	for ahead := -1; ahead != len(all); {
		ahead = len(all)
		for _, o := range k.made {
			for _, to := range o.words {
				if all[o.p] && to != 0 {
					all[to] = true
				}
			}
		}
	}
	return all
}

// collect is P18.5.
func (k *book) collect() api.Swept {
	var told api.Swept
	reached, ahead := k.reached(), k.h.Stats().L
	for _, o := range slices.Clone(k.made) {
		if !reached[o.p] {
			k.frees(o)
			told.Freed++
		}
	}
	told.Bytes = ahead - k.h.Stats().L
	return told
}

// both are stores over one heap, each beside its book, and the books' heap; and others, who ask both heaps for blocks of their own.
type both struct {
	t       *testing.T
	h, twin *malloc.Heap
	stores  []*count.Store
	books   []*book
	strange []api.Block
	seen    map[string]int // how often something happened
}

func newBoth(t *testing.T, c api.Config, many int) *both {
	t.Helper()
	x := &both{t: t, h: newHeap(t, c), twin: newHeap(t, c), seen: map[string]int{}}
	for range many {
		x.stores = append(x.stores, count.New(x.h))
		x.books = append(x.books, &book{h: x.twin})
	}
	return x
}

// same asks that a store has answered what its book says.
func (x *both) same(what string, got, want any) {
	x.t.Helper()
	if !reflect.DeepEqual(got, want) {
		x.t.Fatalf("%s: %v, not %v", what, got, want)
	}
}

// object draws an address: most often an object's, else one that is none, or another store's.
func (x *both) object(i int, row *numbers) uint64 {
	if k := x.books[i]; len(k.made) > 0 && row.below(15) > 0 {
		if row.below(2) == 0 {
			return k.made[len(k.made)-1-row.below(min(len(k.made), 5))].p // one that came of late
		}
		return oneOf(row, k.made...).p
	}
	list := []uint64{0, 1, most, x.h.Config().Base + uint64(row.below(100))*8}
	for _, k := range x.books {
		for _, o := range k.made {
			list = append(list, o.p+1, o.p)
		}
		list = append(list, k.gone...)
	}
	for _, b := range x.strange {
		list = append(list, b.P)
	}
	return oneOf(row, list...)
}

// place draws a number near one, or an edge.
func place(row *numbers, near int) int {
	if row.below(15) == 0 {
		return oneOf(row, edges()...)
	}
	if row.below(6) == 0 {
		return near - 1 + row.below(3)
	}
	return row.below(near + 1)
}

// others asks for a block past the stores, or frees one of those.
func (x *both) others(row *numbers) {
	x.t.Helper()
	if i := row.below(len(x.strange) + 1); i < len(x.strange) && row.below(3) > 0 {
		x.same("the heap's Free", x.h.Free(x.strange[i].P), x.twin.Free(x.strange[i].P))
		x.strange = slices.Delete(x.strange, i, i+1)
		return
	}
	size, deny := uint64(16)<<row.below(10), row.below(2) == 0
	got := told(x.h.Malloc(size, deny))
	x.same("the heap's Malloc", got, told(x.twin.Malloc(size, deny)))
	if got.e == api.OK {
		x.strange = append(x.strange, api.Block{P: got.p, Size: size})
	}
}

// makes makes an object; now and then of numbers that are none, or too great.
func (x *both) makes(i int, row *numbers) {
	x.t.Helper()
	words, n := row.form(x.h.Config())
	if row.below(20) == 0 {
		words = oneOf(row, edges()...)
	}
	if row.below(20) == 0 {
		n = oneOf(row, edges()...)
	}
	deny := row.below(3) == 0
	got := told(x.stores[i].Make(words, n, deny))
	x.same("Make", got, x.books[i].make(words, n, deny))
	x.seen["Make "+got.e.Error()]++
}

// puts lets a word refer somewhere, or to nothing.
func (x *both) puts(i int, row *numbers) {
	x.t.Helper()
	p, to := x.object(i, row), x.object(i, row)
	if row.below(5) == 0 {
		to = 0
	}
	word := place(row, x.words(i, p))
	there := len(x.books[i].made)
	got := x.stores[i].Put(p, word, to)
	x.same("Put", got, x.books[i].put(p, word, to))
	x.seen["Put "+got.Error()]++
	x.seen["went by Put"] += there - len(x.books[i].made)
	if got == api.OK && x.books[i].find(p) == nil {
		x.seen["went by its own Put"]++
	}
}

// words tells how many an object has.
func (x *both) words(i int, p uint64) int {
	if o := x.books[i].find(p); o != nil {
		return len(o.words)
	}
	return 1
}

// bytes reads or writes some.
func (x *both) bytes(i int, row *numbers) {
	x.t.Helper()
	p := x.object(i, row)
	most := 5
	if o := x.books[i].find(p); o != nil {
		most = len(o.bytes)
	}
	at := place(row, most)
	n := place(row, max(0, most-min(max(at, 0), most)))
	got, e := x.stores[i].Read(p, at, n)
	want, f := x.books[i].read(p, at, n)
	x.same("Read", e, f)
	x.seen["Read "+e.Error()]++
	if !bytes.Equal(got, want) {
		x.t.Fatalf("Read(%d, %d, %d): %v, not %v", p, at, n, got, want)
	}
	if n >= 0 && n <= 1<<21 {
		b := row.bytes(min(n, 5000))
		x.same("Write", x.stores[i].Write(p, at, b), x.books[i].write(p, at, b))
	}
}

// looks asks what changes nothing.
func (x *both) looks(i int, row *numbers) {
	x.t.Helper()
	p := x.object(i, row)
	word := place(row, x.words(i, p))
	x.same("Get", told(x.stores[i].Get(p, word)), x.books[i].get(p, word))
	got, e := x.stores[i].Count(p)
	want, f := x.books[i].counts(p)
	x.same("Count", got, want)
	x.same("Count", e, f)
}

// drops keeps an object once less.
func (x *both) drops(i int, p uint64) {
	x.t.Helper()
	there := len(x.books[i].made)
	got := x.stores[i].Drop(p)
	x.same("Drop", got, x.books[i].drop(p))
	x.seen["Drop "+got.Error()]++
	x.seen["went by Drop"] += there - len(x.books[i].made)
}

// keeps keeps an object once more.
func (x *both) keeps(i int, p uint64) {
	x.t.Helper()
	got := x.stores[i].Keep(p)
	x.same("Keep", got, x.books[i].keep(p))
	x.seen["Keep "+got.Error()]++
}

// collects does a collection.
func (x *both) collects(i int) {
	x.t.Helper()
	got, want := x.stores[i].Collect(), x.books[i].collect()
	if got.Freed != want.Freed || got.Bytes != want.Bytes || len(got.Due) != 0 {
		x.t.Fatalf("Collect: %+v, not %+v", got, want)
	}
	x.seen["Freed"] += got.Freed
	x.seen["Stayed"] += len(x.books[i].made)
}

// holds looks at all words and bytes of each object.
func (x *both) holds(i int) {
	x.t.Helper()
	for _, o := range x.books[i].made {
		for word, want := range o.words {
			if got, e := x.stores[i].Get(o.p, word); got != want || e != api.OK {
				x.t.Fatalf("Get(%d, %d): %d, %v; not %d", o.p, word, got, e, want)
			}
		}
		wantsBytes(x.t, x.stores[i], o.p, 0, o.bytes)
	}
}

// call does one that is drawn.
func (x *both) call(row *numbers) {
	x.t.Helper()
	i := row.below(len(x.stores))
	switch kind := row.below(100); {
	case kind < 22:
		x.makes(i, row)
	case kind < 55:
		x.puts(i, row)
	case kind < 61:
		x.bytes(i, row)
	case kind < 65:
		x.looks(i, row)
	case kind < 69:
		x.keeps(i, x.object(i, row))
	case kind < 87:
		x.drops(i, x.object(i, row))
	case kind < 89:
		x.collects(i)
	case kind < 91:
		x.same("the heap's Trim", x.h.Trim(), x.twin.Trim())
	default:
		x.others(row)
	}
}

// check holds the objects of each store, every count, and the heap's live blocks and Stats, against the books.
func (x *both) check() {
	x.t.Helper()
	all := slices.Clone(x.strange)
	for i, k := range x.books {
		var want []uint64
		for _, o := range k.made {
			want = append(want, o.p)
			all = append(all, api.Block{P: o.p, Size: sizeFor(x.h.Config(), uint64(8*len(o.words)+len(o.bytes)))})
		}
		wantsObjects(x.t, x.stores[i], want...)
		counted := k.counted()
		for _, o := range k.made {
			wantsCount(x.t, x.stores[i], counted[o.p], o.p)
		}
	}
	slices.SortFunc(all, func(one, other api.Block) int { return cmp.Compare(one.P, other.P) })
	wantsLive(x.t, x.h, all...)
	x.same("the heap's Stats", x.h.Stats(), x.twin.Stats())
}

// checkBlocks asks that each live block holds what the books' one does.
func (x *both) checkBlocks() {
	x.t.Helper()
	for _, b := range x.twin.Live() {
		got, _ := x.h.Read(b.P, b.Size)
		want, _ := x.twin.Read(b.P, b.Size)
		if !bytes.Equal(got, want) {
			x.t.Fatalf("the block at %d holds something else than the books' one", b.P)
		}
	}
}

// checkHeap asks that just the same was done on both heaps: every byte, list and page is the same.
func (x *both) checkHeap() {
	x.t.Helper()
	if !reflect.DeepEqual(x.h.Image(), x.twin.Image()) {
		x.t.Fatal("the heap is another than the books'")
	}
}

// P18.1 to P18.6: behind long rows of calls, denied and not, by one store and by several, others using the heap beside, each answers what the chapter says, and the books are right behind each.
func TestCalls(t *testing.T) {
	seen := map[string]int{}
	for seed := range 108 {
		row := numbers(seed)
		x := newBoth(t, config(seed%9, 1+seed%5), 1+seed%3)
		for n := range 300 {
			x.call(&row)
			x.check()
			if n%10 == 0 {
				x.holds(row.below(len(x.stores)))
			}
			if n%10 == 0 || seed%9 < 5 { // great heaps take long
				x.checkBlocks()
			}
		}
		x.checkHeap()
		for i := range x.stores {
			x.collects(i)
			x.check()
			x.collects(i)
			x.check()
			x.holds(i)
		}
		x.checkHeap()
		for what, times := range x.seen {
			seen[what] += times
		}
	}
	for _, what := range []string{"Freed", "Stayed", "went by Put", "went by Drop", "Make error 0", "Make error 1", "Make error 2", "Make error 3", "Put error 0", "Put error 1", "Read error 0", "Read error 1", "Read error 4", "Keep error 0", "Keep error 1", "Drop error 0", "Drop error 1", "Drop error 9"} {
		if seen[what] < 100 {
			t.Errorf("%s: only %d", what, seen[what])
		}
	}
}

// P18.1 to P18.6, T9: small webs on a small heap: so that most objects lead to most others, full heaps are let go, and addresses come again and again; all that each object holds is looked at behind each call.
func TestCallsOfSmallWebs(t *testing.T) {
	seen := map[string]int{}
	for seed := range 150 {
		row := numbers(seed)
		x := newBoth(t, example(), 1+seed%2)
		for range 500 {
			i := row.below(len(x.stores))
			switch kind := row.below(100); {
			case kind < 32:
				words := row.below(4)
				x.same("Make", told(x.stores[i].Make(words, 0, false)), x.books[i].make(words, 0, false))
			case kind < 70:
				x.puts(i, &row)
			case kind < 72:
				x.keeps(i, x.object(i, &row))
			case kind < 99:
				x.drops(i, x.object(i, &row))
			default:
				x.collects(i)
			}
			x.check()
			x.holds(i)
		}
		x.checkHeap()
		for what, times := range x.seen {
			seen[what] += times
		}
	}
	for _, what := range []string{"Freed", "Stayed", "went by Put", "went by Drop", "went by its own Put", "Drop error 9"} {
		if seen[what] < 50 {
			t.Errorf("%s: only %d", what, seen[what])
		}
	}
}

// tryWeb makes three objects with so many words each, lets them refer to one another as web says, keeps those by hand whose bits are set, and lets a word be 0 again; then it collects.
func tryWeb(t *testing.T, words, web, kept, word int) {
	t.Helper()
	x := newBoth(t, example(), 1)
	s, k := x.stores[0], x.books[0]
	var list []uint64
	for range 3 {
		got := told(s.Make(words, 0, false))
		x.same("Make", got, k.make(words, 0, false))
		list = append(list, got.p)
	}
	for _, p := range list {
		for word := range words {
			if to := web % 4; to > 0 {
				x.same("Put", s.Put(p, word, list[to-1]), k.put(p, word, list[to-1]))
			}
			web /= 4
		}
	}
	for i, p := range list {
		if kept>>i&1 == 0 {
			x.drops(0, p)
		}
	}
	x.check()
	x.same("Put", s.Put(list[word%3], word/3, 0), k.put(list[word%3], word/3, 0))
	x.check()
	x.collects(0)
	x.check()
	x.holds(0)
	x.checkHeap()
}

// Every web of three objects with a word each, any of them kept, each word put to 0; and every one of three with two words each, one kept or none.
func TestEveryWeb(t *testing.T) {
	for web := range 4 * 4 * 4 {
		for kept := range 8 {
			for word := range 3 {
				tryWeb(t, 1, web, kept, word)
			}
		}
	}
	for web := range 4 * 4 * 4 * 4 * 4 * 4 {
		tryWeb(t, 2, web, 0, web%6*5%6)
		tryWeb(t, 2, web, 1<<(web%3), web%6)
	}
}
