package trace_test

import (
	"bytes"
	"cmp"
	"maps"
	"math/big"
	"reflect"
	"slices"
	"strconv"
	"testing"

	"croft/api"
	"croft/malloc"
	"croft/trace"
)

// thing is an object, as a plain list of words and one of bytes.
type thing struct {
	p     uint64
	words []uint64
	bytes []byte
	final bool
}

// book is a store by the chapter's words: on a heap it does just the calls that the chapter says, and keeps the objects in the order in which they were made.
type book struct {
	h     *malloc.Heap
	made  []*thing
	names map[string]uint64
	weak  []uint64 // 0: to nothing any more
	gone  []uint64 // addresses of objects that went
}

func newBook(h *malloc.Heap) *book { return &book{h: h, names: map[string]uint64{}} }

// find tells an object, or nil.
func (k *book) find(p uint64) *thing {
	for _, o := range k.made {
		if o.p == p {
			return o
		}
	}
	return nil
}

// make is P17.1.
func (k *book) make(words, bytes int, deny bool) answer {
	if words < 0 || bytes < 0 {
		return answer{0, api.EINVAL}
	}
	exact := big.NewInt(int64(words))
	exact.Add(exact.Mul(exact, big.NewInt(8)), big.NewInt(int64(bytes)))
	if exact.Cmp(new(big.Int).SetUint64(regionBytes(k.h.Config()))) > 0 {
		return answer{0, api.ETOOBIG}
	}
	got := told(k.h.Calloc(1, exact.Uint64(), deny))
	if got.e == api.OK {
		k.made = append(k.made, &thing{p: got.p, words: make([]uint64, words), bytes: make([]byte, bytes)})
	}
	return got
}

// get is P17.2, and so is put.
func (k *book) get(p uint64, word int) answer {
	o := k.find(p)
	if o == nil || word < 0 || word >= len(o.words) {
		return answer{0, api.EINVAL}
	}
	return answer{o.words[word], api.OK}
}

func (k *book) put(p uint64, word int, to uint64) api.Errno {
	if k.get(p, word).e != api.OK || to != 0 && k.find(to) == nil {
		return api.EINVAL
	}
	k.find(p).words[word] = to
	for i := range 8 { // and by bytes in the heap, the lowest first
		k.h.Store(p+uint64(8*word+i), byte(to>>(8*i)))
	}
	return api.OK
}

// read is P17.3, and so is write.
func (k *book) read(p uint64, at, n int) ([]byte, api.Errno) {
	o := k.find(p)
	if o == nil {
		return nil, api.EINVAL
	}
	end := new(big.Int).Add(big.NewInt(int64(at)), big.NewInt(int64(n)))
	if at < 0 || n < 0 || end.Cmp(big.NewInt(int64(len(o.bytes)))) > 0 {
		return nil, api.EFAULT
	}
	return slices.Clone(o.bytes[at : at+n]), api.OK
}

func (k *book) write(p uint64, at int, b []byte) api.Errno {
	if _, e := k.read(p, at, len(b)); e != api.OK {
		return e
	}
	o := k.find(p)
	copy(o.bytes[at:], b)
	k.h.Write(p+uint64(8*len(o.words)), o.bytes)
	return api.OK
}

// root is P17.4, and so is unroot.
func (k *book) root(name string, p uint64) api.Errno {
	if k.find(p) == nil {
		return api.EINVAL
	}
	k.names[name] = p
	return api.OK
}

func (k *book) unroot(name string) api.Errno {
	if k.names[name] == 0 {
		return api.EINVAL
	}
	delete(k.names, name)
	return api.OK
}

// weaken is P17.5, and so is deref.
func (k *book) weaken(p uint64) (int, api.Errno) {
	if k.find(p) == nil {
		return 0, api.EINVAL
	}
	k.weak = append(k.weak, p)
	return len(k.weak), api.OK
}

func (k *book) deref(weak int) answer {
	if weak < 1 || weak > len(k.weak) {
		return answer{0, api.EINVAL}
	}
	return answer{k.weak[weak-1], api.OK}
}

// finalize is P17.6.
func (k *book) finalize(p uint64) api.Errno {
	if k.find(p) == nil {
		return api.EINVAL
	}
	k.find(p).final = true
	return api.OK
}

// spread adds all to which a word of one of these refers, till there is none more.
func (k *book) spread(some map[uint64]bool) map[uint64]bool {
	all := maps.Clone(some)
	for ahead := -1; ahead != len(all); {
		ahead = len(all)
		for _, o := range k.made {
			for _, to := range o.words {
				if all[o.p] && to != 0 {
					all[to] = true
				}
			}
		}
	}
	return all
}

// reached tells those to which names refer, and all to which a word of a reached one refers.
func (k *book) reached() map[uint64]bool {
	some := map[uint64]bool{}
	for _, p := range k.names {
		some[p] = true
	}
	return k.spread(some)
}

// collect is P17.7.
func (k *book) collect() api.Swept {
	var told api.Swept
	reached := k.reached()
	kept := maps.Clone(reached)
	for _, o := range k.made {
		if o.final && !reached[o.p] {
			told.Due = append(told.Due, o.p)
			kept[o.p] = true
			o.final = false
		}
	}
	kept = k.spread(kept)
	for i, p := range k.weak {
		if !reached[p] {
			k.weak[i] = 0
		}
	}
	ahead := k.h.Stats().L
	var left []*thing
	for _, o := range k.made {
		if kept[o.p] {
			left = append(left, o)
			continue
		}
		k.h.Free(o.p)
		k.gone = append(k.gone, o.p)
		told.Freed++
	}
	k.made = left
	told.Bytes = ahead - k.h.Stats().L
	return told
}

// both are stores over one heap, each beside its book, and the books' heap; and others, who ask both heaps for blocks of their own.
type both struct {
	t       *testing.T
	h, twin *malloc.Heap
	stores  []*trace.Store
	books   []*book
	strange []api.Block
	seen    map[string]int // how often something happened
}

func newBoth(t *testing.T, c api.Config, count int) *both {
	t.Helper()
	x := &both{t: t, h: newHeap(t, c), twin: newHeap(t, c), seen: map[string]int{}}
	for range count {
		x.stores = append(x.stores, trace.New(x.h))
		x.books = append(x.books, newBook(x.twin))
	}
	return x
}

// same asks that a store has answered what its book says.
func (x *both) same(what string, got, want any) {
	x.t.Helper()
	if !reflect.DeepEqual(got, want) {
		x.t.Fatalf("%s: %v, not %v", what, got, want)
	}
}

// object draws an address: most often an object's, else one that is none, or another store's.
func (x *both) object(i int, row *numbers) uint64 {
	if k := x.books[i]; len(k.made) > 0 && row.below(15) > 0 {
		if row.below(2) == 0 {
			return k.made[len(k.made)-1-row.below(min(len(k.made), 5))].p // one that came of late
		}
		return oneOf(row, k.made...).p
	}
	list := []uint64{0, 1, most, x.h.Config().Base + uint64(row.below(100))*8}
	for _, k := range x.books {
		for _, o := range k.made {
			list = append(list, o.p+1, o.p)
		}
		list = append(list, k.gone...)
	}
	for _, b := range x.strange {
		list = append(list, b.P)
	}
	return oneOf(row, list...)
}

// place draws a number near one, or an edge.
func place(row *numbers, near int) int {
	if row.below(15) == 0 {
		return oneOf(row, edges()...)
	}
	if row.below(6) == 0 {
		return near - 1 + row.below(3)
	}
	return row.below(near + 1)
}

// others asks for a block past the stores, or frees one of those.
func (x *both) others(row *numbers) {
	x.t.Helper()
	if i := row.below(len(x.strange) + 1); i < len(x.strange) && row.below(3) > 0 {
		x.same("the heap's Free", x.h.Free(x.strange[i].P), x.twin.Free(x.strange[i].P))
		x.strange = slices.Delete(x.strange, i, i+1)
		return
	}
	size, deny := uint64(16)<<row.below(10), row.below(2) == 0
	got := told(x.h.Malloc(size, deny))
	x.same("the heap's Malloc", got, told(x.twin.Malloc(size, deny)))
	if got.e == api.OK {
		x.strange = append(x.strange, api.Block{P: got.p, Size: size})
	}
}

// makes makes an object; now and then of numbers that are none, or too great.
func (x *both) makes(i int, row *numbers) {
	x.t.Helper()
	words, n := row.form(x.h.Config())
	if row.below(20) == 0 {
		words = oneOf(row, edges()...)
	}
	if row.below(20) == 0 {
		n = oneOf(row, edges()...)
	}
	deny := row.below(3) == 0
	got := told(x.stores[i].Make(words, n, deny))
	x.same("Make", got, x.books[i].make(words, n, deny))
	x.seen["Make "+got.e.Error()]++
}

// puts lets a word refer somewhere, or to nothing.
func (x *both) puts(i int, row *numbers) {
	x.t.Helper()
	p, to := x.object(i, row), x.object(i, row)
	if row.below(5) == 0 {
		to = 0
	}
	word := place(row, x.words(i, p))
	got := x.stores[i].Put(p, word, to)
	x.same("Put", got, x.books[i].put(p, word, to))
	x.seen["Put "+got.Error()]++
}

// words tells how many an object has.
func (x *both) words(i int, p uint64) int {
	if o := x.books[i].find(p); o != nil {
		return len(o.words)
	}
	return 1
}

// bytes reads or writes some.
func (x *both) bytes(i int, row *numbers) {
	x.t.Helper()
	p := x.object(i, row)
	most := 5
	if o := x.books[i].find(p); o != nil {
		most = len(o.bytes)
	}
	at := place(row, most)
	n := place(row, max(0, most-min(max(at, 0), most)))
	got, e := x.stores[i].Read(p, at, n)
	want, f := x.books[i].read(p, at, n)
	x.same("Read", e, f)
	x.seen["Read "+e.Error()]++
	if !bytes.Equal(got, want) {
		x.t.Fatalf("Read(%d, %d, %d): %v, not %v", p, at, n, got, want)
	}
	if n >= 0 && n <= 1<<21 {
		b := row.bytes(min(n, 5000))
		x.same("Write", x.stores[i].Write(p, at, b), x.books[i].write(p, at, b))
	}
}

// looks asks what changes nothing.
func (x *both) looks(i int, row *numbers) {
	x.t.Helper()
	p := x.object(i, row)
	word, weak := place(row, x.words(i, p)), place(row, len(x.books[i].weak))
	x.same("Get", told(x.stores[i].Get(p, word)), x.books[i].get(p, word))
	x.same("Deref", told(x.stores[i].Deref(weak)), x.books[i].deref(weak))
}

// asks does a call that takes nothing but an object.
func (x *both) asks(i int, row *numbers) {
	x.t.Helper()
	p := x.object(i, row)
	if row.below(2) == 0 {
		x.same("Final", x.stores[i].Final(p), x.books[i].finalize(p))
		return
	}
	got, e := x.stores[i].Weak(p)
	want, f := x.books[i].weaken(p)
	x.same("Weak", got, want)
	x.same("Weak", e, f)
}

// collects does a collection, and looks at all that each object holds.
func (x *both) collects(i int) {
	x.t.Helper()
	got, want := x.stores[i].Collect(), x.books[i].collect()
	if !sameSwept(got, want) {
		x.t.Fatalf("Collect: %+v, not %+v", got, want)
	}
	x.seen["Freed"] += got.Freed
	x.seen["Due"] += len(got.Due)
	x.seen["Kept"] += len(x.books[i].made)
	for weak := range len(x.books[i].weak) + 2 {
		x.same("Deref", told(x.stores[i].Deref(weak)), x.books[i].deref(weak))
	}
	for _, o := range x.books[i].made {
		for word, to := range o.words {
			x.same("Get", told(x.stores[i].Get(o.p, word)), answer{to, api.OK})
		}
		wantsBytes(x.t, x.stores[i], o.p, 0, o.bytes)
	}
}

// call does one that is drawn.
func (x *both) call(row *numbers) {
	x.t.Helper()
	i := row.below(len(x.stores))
	name := strconv.Itoa(row.below(4))
	switch kind := row.below(100); {
	case kind < 25:
		x.makes(i, row)
	case kind < 60:
		x.puts(i, row)
	case kind < 66:
		x.bytes(i, row)
	case kind < 70:
		x.looks(i, row)
	case kind < 76:
		x.asks(i, row)
	case kind < 82:
		p := x.object(i, row)
		x.same("Root", x.stores[i].Root(name, p), x.books[i].root(name, p))
	case kind < 85:
		x.same("Unroot", x.stores[i].Unroot(name), x.books[i].unroot(name))
	case kind < 90:
		x.collects(i)
	case kind < 92:
		x.same("the heap's Trim", x.h.Trim(), x.twin.Trim())
	default:
		x.others(row)
	}
}

// check holds the objects of each store, and the heap's live blocks and Stats, against the books.
func (x *both) check() {
	x.t.Helper()
	all := slices.Clone(x.strange)
	for i, k := range x.books {
		var want []uint64
		for _, o := range k.made {
			want = append(want, o.p)
			all = append(all, api.Block{P: o.p, Size: sizeFor(x.h.Config(), uint64(8*len(o.words)+len(o.bytes)))})
		}
		wantsObjects(x.t, x.stores[i], want...)
	}
	slices.SortFunc(all, func(one, other api.Block) int { return cmp.Compare(one.P, other.P) })
	wantsLive(x.t, x.h, all...)
	x.same("the heap's Stats", x.h.Stats(), x.twin.Stats())
}

// checkHeap asks that just the same was done on both heaps: every byte, list and page is the same.
func (x *both) checkHeap() {
	x.t.Helper()
	if !reflect.DeepEqual(x.h.Image(), x.twin.Image()) {
		x.t.Fatal("the heap is another than the books'")
	}
}

// P17.1 to P17.8: behind long rows of calls, denied and not, by one store and by several, others using the heap beside, each answers what the chapter says, and the books are right behind each.
func TestCalls(t *testing.T) {
	seen := map[string]int{}
	for seed := range 108 {
		row := numbers(seed)
		x := newBoth(t, config(seed%9, 1+seed%5), 1+seed%3)
		for range 400 {
			x.call(&row)
			x.check()
		}
		x.checkHeap()
		for i := range x.stores {
			x.collects(i)
			x.collects(i)
			x.check()
		}
		x.checkHeap()
		for what, count := range x.seen {
			seen[what] += count
		}
	}
	for _, what := range []string{"Freed", "Due", "Kept", "Make error 0", "Make error 1", "Make error 2", "Make error 3", "Put error 0", "Put error 1", "Read error 0", "Read error 1", "Read error 4"} {
		if seen[what] < 100 {
			t.Errorf("%s: only %d", what, seen[what])
		}
	}
}

// P17.7, T9: small webs on a small heap: so that most objects lead to most others, full heaps are collected, and addresses come again and again.
func TestCallsOfSmallWebs(t *testing.T) {
	for seed := range 150 {
		row := numbers(seed)
		x := newBoth(t, example(), 1+seed%2)
		for range 500 {
			i := row.below(len(x.stores))
			s, k := x.stores[i], x.books[i]
			switch kind := row.below(20); {
			case kind < 8:
				words := row.below(4)
				x.same("Make", told(s.Make(words, 0, false)), k.make(words, 0, false))
			case kind < 16:
				x.puts(i, &row)
			case kind < 18:
				x.asks(i, &row)
			case kind == 18 && row.below(2) == 0:
				p := x.object(i, &row)
				x.same("Root", s.Root("only", p), k.root("only", p))
			default:
				x.collects(i)
				x.check()
			}
		}
		x.check()
		x.checkHeap()
	}
}

// tryWeb makes three objects with so many words each, lets them lead to one another as web says, makes final and names those whose bits are set, and collects twice.
func tryWeb(t *testing.T, words, web, final, named int) {
	t.Helper()
	x := newBoth(t, example(), 1)
	s, k := x.stores[0], x.books[0]
	for range 3 {
		x.same("Make", told(s.Make(words, 0, false)), k.make(words, 0, false))
	}
	for i, o := range k.made {
		for word := range words {
			if to := web % 4; to > 0 {
				q := k.made[to-1].p
				x.same("Put", s.Put(o.p, word, q), k.put(o.p, word, q))
			}
			web /= 4
		}
		if final>>i&1 == 1 {
			x.same("Final", s.Final(o.p), k.finalize(o.p))
		}
		if named>>i&1 == 1 {
			x.same("Root", s.Root(strconv.Itoa(i), o.p), k.root(strconv.Itoa(i), o.p))
		}
		s.Weak(o.p)
		k.weaken(o.p)
	}
	x.collects(0)
	x.check()
	x.collects(0)
	x.check()
	x.checkHeap()
}

// P17.7: every web of three objects with a word each, any of them final and any of them named; and every one of three with two words each, one named or none.
func TestEveryWeb(t *testing.T) {
	for web := range 4 * 4 * 4 {
		for final := range 8 {
			for named := range 8 {
				tryWeb(t, 1, web, final, named)
			}
		}
	}
	for web := range 4 * 4 * 4 * 4 * 4 * 4 {
		tryWeb(t, 2, web, web%8*5%8, 0)
		tryWeb(t, 2, web, web%7, 1<<(web%3))
	}
}
