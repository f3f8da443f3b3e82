package dict_test

import (
	"cmp"
	"maps"
	"reflect"
	"slices"
	"strconv"
	"testing"

	"croft/api"
	"croft/dict"
	"croft/malloc"
)

// item is a key with its value, and where its entry lies.
type item struct {
	pair
	p    uint64
	gone bool // it was deleted
}

// book is a table by the chapter's words: on a heap of its own it does just the calls that the chapter says, writes nothing there, and keeps plain lists of what stands in the order of coming and at each place of the row.
type book struct {
	h     *malloc.Heap
	row   uint64
	lists [][]*item // one for each word of the row; none without a row
	order []*item
}

// newBook is P19.2.
func newBook(h *malloc.Heap, deny bool) (*book, api.Errno) {
	k := &book{h: h}
	e := k.asksRow(8, deny)
	return k, e
}

// asksRow asks for a row, and begins its lists.
func (k *book) asksRow(n int, deny bool) api.Errno {
	p, e := k.h.Calloc(uint64(n), 8, deny)
	if e == api.OK {
		k.row, k.lists = p, make([][]*item, n)
	}
	return e
}

func (k *book) place(key string) int { return int(hash(key) % uint64(len(k.lists))) }

func (k *book) find(key string) *item {
	for _, one := range k.order {
		if one.key == key {
			return one
		}
	}
	return nil
}

// putFirst puts an item into its place's list.
func (k *book) putFirst(one *item) {
	place := k.place(one.key)
	k.lists[place] = append([]*item{one}, k.lists[place]...)
}

// set is P19.3.
func (k *book) set(key, value string, deny bool) api.Errno {
	if len(key)+len(value) > 65536 {
		return api.ELIMIT
	}
	size := 40 + len(key) + len(value)
	one := k.find(key)
	if one == nil {
		return k.add(&item{pair: pair{key, value}}, size, deny)
	}
	if len(one.value) != len(value) {
		p, e := k.h.Malloc(uint64(size), deny)
		if e != api.OK {
			return e
		}
		k.h.Free(one.p)
		one.p = p
	}
	one.value = value
	return api.OK
}

func (k *book) add(one *item, size int, deny bool) (e api.Errno) {
	bare := len(k.lists) == 0
	if bare {
		e = k.asksRow(8, deny)
		if e != api.OK && size > regionBytes(k.h.Config()) {
			return api.ETOOBIG
		}
		if e != api.OK {
			return e
		}
	}
	one.p, e = k.h.Malloc(uint64(size), deny)
	if e != api.OK {
		if bare {
			k.dropsRow()
		}
		return e
	}
	k.order = append(k.order, one)
	k.putFirst(one)
	k.grow(deny)
	return api.OK
}

func (k *book) grow(deny bool) {
	n := len(k.lists)
	if len(k.order) <= n || 2*n*8 > regionBytes(k.h.Config()) {
		return
	}
	old := k.row
	if k.asksRow(2*n, deny) != api.OK {
		return
	}
	for _, one := range k.order {
		k.putFirst(one)
	}
	k.h.Free(old)
}

func (k *book) dropsRow() {
	k.h.Free(k.row)
	k.row, k.lists = 0, nil
}

// remove is P19.4's Delete.
func (k *book) remove(key string) bool {
	one := k.find(key)
	if one == nil {
		return false
	}
	is := func(other *item) bool { return other == one }
	k.order = slices.DeleteFunc(k.order, is)
	k.lists[k.place(key)] = slices.DeleteFunc(k.lists[k.place(key)], is)
	k.h.Free(one.p)
	one.gone = true
	return true
}

// drop is P19.6.
func (k *book) drop() {
	for _, one := range k.order {
		k.h.Free(one.p)
		one.gone = true
	}
	k.order = nil
	k.dropsRow()
}

// behind tells what a range gives next behind an item, nil for the beginning: P19.5.
func (k *book) behind(one *item) *item {
	i := slices.Index(k.order, one) + 1
	if one != nil && one.gone || i == len(k.order) {
		return nil
	}
	return k.order[i]
}

// pairs tells what stands there, in the order of coming.
func (k *book) pairs() []pair {
	var list []pair
	for _, one := range k.order {
		list = append(list, one.pair)
	}
	return list
}

// both are tables over one heap, each beside its book, and the books' heap; and others, who ask both heaps for blocks of their own.
type both struct {
	t       *testing.T
	h, twin *malloc.Heap
	tables  []*dict.Table
	books   []*book
	strange map[api.Block]string // what each holds
	seen    map[string]int       // how often something happened
}

func newBoth(t *testing.T, c api.Config, many int) *both {
	t.Helper()
	x := &both{t: t, h: newHeap(t, c), twin: newHeap(t, c), strange: map[api.Block]string{}, seen: map[string]int{}}
	for range many {
		x.begins(false)
	}
	return x
}

// begins makes a table more, if it is not refused.
func (x *both) begins(deny bool) {
	x.t.Helper()
	table, e := dict.New(x.h, deny)
	k, want := newBook(x.twin, deny)
	wantsError(x.t, "New", e, want)
	x.seen["New "+e.Error()]++
	if e != api.OK {
		if table != nil {
			x.t.Fatal("New: an error, and a table")
		}
		return
	}
	x.tables, x.books = append(x.tables, table), append(x.books, k)
}

// set, remove and drop do a call on a table and in its book.
func (x *both) set(i int, key, value string, deny bool) api.Errno {
	x.t.Helper()
	k := x.books[i]
	n, one, bare := len(k.lists), k.find(key), len(k.lists) == 0
	kind := "new"
	if one != nil && len(one.value) == len(value) {
		kind = "same length"
	} else if one != nil {
		kind = "another length"
	} else if bare {
		kind = "new without a row"
	}
	got, want := set(x.tables[i], key, value, deny), k.set(key, value, deny)
	if got != want {
		x.t.Fatalf("Set(%s, %s, %v): %v, not %v", short(key), short(value), deny, got, want)
	}
	x.seen[kind+" "+got.Error()]++
	if !bare && len(k.lists) > n {
		x.seen["rows that grew"]++
	} else if got == api.OK && one == nil && len(k.order) > n && !bare {
		x.seen["rows that stayed"]++
	}
	return got
}

func (x *both) remove(i int, key string) {
	x.t.Helper()
	got, want := x.tables[i].Delete([]byte(key)), x.books[i].remove(key)
	if got != want {
		x.t.Fatalf("Delete(%s): %v, not %v", short(key), got, want)
	}
	x.seen["Delete "+strconv.FormatBool(got)]++
}

func (x *both) get(i int, key string) {
	x.t.Helper()
	got, is := x.tables[i].Get([]byte(key))
	one := x.books[i].find(key)
	if is != (one != nil) || is && string(got) != one.value || !is && len(got) != 0 {
		x.t.Fatalf("Get(%s): %s, %v; not %v", short(key), short(string(got)), is, one)
	}
	x.seen["Get "+strconv.FormatBool(is)]++
}

func (x *both) drop(i int) {
	x.tables[i].Drop()
	x.books[i].drop()
	x.seen["Drop"]++
}

// others asks for a block past the tables and writes into all of it, or frees one of those.
func (x *both) others(row *numbers) {
	x.t.Helper()
	if len(x.strange) > 0 && row.below(3) == 0 {
		b := oneOf(row, x.strangeBlocks()...)
		wantsError(x.t, "the heap's Free", x.h.Free(b.P), x.twin.Free(b.P))
		delete(x.strange, b)
		return
	}
	x.takes(row, uint64(16)<<row.below(10), row.below(2) == 0)
	if row.below(30) == 0 { // all that is left
		for _, size := range []uint64{4096, 64} {
			for x.takes(row, size, true) {
			}
		}
		x.begins(true)
	}
}

// takes asks for a block of others, and says whether it came.
func (x *both) takes(row *numbers, size uint64, deny bool) bool {
	x.t.Helper()
	p, e := x.h.Malloc(size, deny)
	q, f := x.twin.Malloc(size, deny)
	if p != q || e != f {
		x.t.Fatalf("the heap's Malloc(%d): %d, %v; not %d, %v", size, p, e, q, f)
	}
	if e == api.OK {
		b := api.Block{P: p, Size: size}
		x.strange[b] = row.text(int(size))
		x.h.Write(p, []byte(x.strange[b]))
	}
	return e == api.OK
}

// strangeBlocks tells those of others, rising.
func (x *both) strangeBlocks() []api.Block {
	return slices.SortedFunc(maps.Keys(x.strange), rising)
}

func rising(one, other api.Block) int { return cmp.Compare(one.P, other.P) }

// ranges goes through a table, with a call between each two steps, and asks what is given next; now and then it is left early.
func (x *both) ranges(i int, row *numbers, between func()) {
	x.t.Helper()
	k, left := x.books[i], false
	var at *item
	steps, end := 0, 5+row.below(60)
	for key, value := range x.tables[i].All() {
		want := k.behind(at)
		if want == nil || want.key != string(key) || want.value != string(value) {
			x.t.Fatalf("All gives %s with %s, not %v", short(string(key)), short(string(value)), want)
		}
		at = want
		between()
		if steps++; steps == end {
			left = true
			break
		}
	}
	if want := k.behind(at); want != nil && !left {
		x.t.Fatalf("All gives nothing more, not %v", *want)
	}
	if left {
		x.seen["ranges left"]++
	} else if at != nil && at.gone {
		x.seen["ranges that ended by Delete"]++
	}
}

// check holds each table against its book by the calls, and the heap by where each block lies and what it holds: P19.1.
func (x *both) check() {
	x.t.Helper()
	list := x.strangeBlocks()
	for i, k := range x.books {
		if got, want := all(x.tables[i]), k.pairs(); !slices.Equal(got, want) {
			x.t.Fatalf("All: %q, not %q", got, want)
		}
		if got := x.tables[i].Len(); got != len(k.order) {
			x.t.Fatalf("Len: %d, not %d", got, len(k.order))
		}
		for _, one := range k.order {
			list = append(list, api.Block{P: one.p, Size: sizeFor(x.h.Config(), 40+len(one.key)+len(one.value))})
		}
		if len(k.lists) > 0 {
			list = append(list, api.Block{P: k.row, Size: uint64(8 * len(k.lists))})
		}
		x.checkWords(k)
	}
	slices.SortFunc(list, rising)
	wantsLive(x.t, x.h, list...)
	if got, want := x.h.Stats(), x.twin.Stats(); got != want {
		x.t.Fatalf("the heap's Stats: %+v, not %+v", got, want)
	}
}

// checkWords asks for each word of the row and of each entry, and for the bytes behind these.
func (x *both) checkWords(k *book) {
	x.t.Helper()
	address := func(one *item) uint64 {
		if one == nil {
			return 0
		}
		return one.p
	}
	next := map[*item]*item{}
	for place, list := range k.lists {
		var first *item
		for i := len(list) - 1; i >= 0; i-- {
			next[list[i]], first = first, list[i]
		}
		wantsWords(x.t, "the row", x.h, k.row+uint64(8*place), address(first))
	}
	var ahead *item
	for _, one := range k.order {
		wantsEntry(x.t, x.h, one.p, address(next[one]), address(ahead), address(k.behind(one)), one.key, one.value)
		ahead = one
	}
}

// checkStrange asks that what others have written is there.
func (x *both) checkStrange() {
	x.t.Helper()
	for b, want := range x.strange {
		got, _ := x.h.Read(b.P, b.Size)
		same(x.t, "a block of others", got, []byte(want))
	}
}

// checkHeap asks that just the same was asked for and given back on both heaps, in the same order: pages, pairs and lists are the same.
func (x *both) checkHeap() {
	x.t.Helper()
	one, other := x.h.Image(), x.twin.Image()
	one.Mem, other.Mem = nil, nil
	if !reflect.DeepEqual(one, other) {
		x.t.Fatal("the heap is another than the books'")
	}
}

// drawKey tells a key: of some few most often, so that they come again and again.
func drawKey(row *numbers, c api.Config) string {
	switch kind := row.below(100); {
	case kind < 2:
		return ""
	case kind < 4:
		return row.text(1)
	case kind < 6:
		return long("long", 4+row.below(6000))
	case kind < 7:
		return long("end", min(65536, regionBytes(c)-41+row.below(3)))
	}
	return "k" + strconv.Itoa(row.below(40))
}

// drawValue tells a value: most often of few bytes, so that lengths come again; now and then of so many that it just is too big.
func drawValue(row *numbers, c api.Config, key string) string {
	switch kind := row.below(100); {
	case kind < 60:
		return row.text(row.below(4))
	case kind < 90:
		return row.text(row.below(100))
	case kind < 95:
		return long("v", row.below(5000))
	case kind < 98:
		return long("w", max(0, min(65536, regionBytes(c)-40)-len(key)+row.below(3)-1))
	}
	return long("x", max(0, 65536-len(key)+row.below(3)-1))
}

// sets sets a key that is drawn.
func (x *both) sets(i int, row *numbers) {
	x.t.Helper()
	c := x.h.Config()
	key := drawKey(row, c)
	x.set(i, key, drawValue(row, c, key), row.below(3) == 0)
}

// call does one that is drawn; no range within a range.
func (x *both) call(row *numbers, within bool) {
	x.t.Helper()
	i := row.below(len(x.tables))
	switch kind := row.below(200); {
	case kind < 90:
		x.sets(i, row)
	case kind < 130:
		x.remove(i, drawKey(row, x.h.Config()))
	case kind < 140:
		x.get(i, drawKey(row, x.h.Config()))
	case kind < 143:
		x.drop(i)
	case kind < 146 && len(x.tables) < 6:
		x.begins(row.below(2) == 0)
	case kind < 150 && !within:
		x.ranges(i, row, func() { x.call(row, true) })
	case kind < 153:
		if got, want := x.h.Trim(), x.twin.Trim(); got != want {
			x.t.Fatalf("the heap's Trim: %d, not %d", got, want)
		}
	default:
		x.others(row)
	}
}

// P19.1 to P19.7: behind long rows of calls, denied and not, by one table and by several, others using the heap beside, each answers what the chapter says; behind each all words are where they must be.
func TestCalls(t *testing.T) {
	seen := map[string]int{}
	for seed := range 81 {
		row := numbers(seed)
		x := newBoth(t, config(seed%9, 1+seed/9%4), 1+seed%2)
		for n := range 300 {
			x.call(&row, false)
			x.check()
			if n%20 == 0 {
				x.checkStrange()
				x.checkHeap()
			}
		}
		x.checkStrange()
		x.checkHeap()
		for i := range x.tables {
			x.drop(i)
			x.check()
		}
		x.checkHeap()
		for what, times := range x.seen {
			seen[what] += times
		}
	}
	for _, what := range []string{"new error 0", "new error 2", "new error 3", "new error 6", "same length error 0", "another length error 0", "another length error 2", "another length error 3", "another length error 6", "new without a row error 0", "new without a row error 2", "rows that grew", "rows that stayed", "Delete true", "Delete false", "Get true", "Get false", "Drop", "New error 0", "New error 2", "ranges left", "ranges that ended by Delete"} {
		if seen[what] < 20 {
			t.Errorf("%s: only %d", what, seen[what])
		}
	}
}

// P19.1, P19.3, P19.5: many keys, set and deleted in any order: rows grow as far as they can, and behind that too.
func TestCallsOfManyKeys(t *testing.T) {
	for order := range 3 {
		row := numbers(order)
		x := newBoth(t, config(order, 64), 1)
		many := 2000 << order
		for n := range 2500 << order {
			i := row.below(many)
			key := strconv.Itoa(i)
			if i%2 == 0 { // bytes of all kinds
				key = string([]byte{byte(i >> 4), byte(i << 4), byte(i >> 8)})
			}
			switch row.below(10) {
			case 0, 1:
				x.remove(0, key)
			case 2:
				x.get(0, key)
			default:
				x.set(0, key, row.text(row.below(3)), row.below(2) == 0)
			}
			if n%500 == 0 {
				x.check()
			}
		}
		x.check()
		if got := 8 * len(x.books[0].lists); got != regionBytes(x.h.Config()) {
			t.Errorf("order %d: the row has %d bytes", order, got)
		}
		x.drop(0)
		x.check()
		x.checkHeap()
	}
}

// P19.5: what a range gives next, whatever is set, deleted and dropped meanwhile, by few keys and by many; ranges within ranges.
func TestRangesAndCalls(t *testing.T) {
	seen := map[string]int{}
	for seed := range 300 {
		row := numbers(seed)
		x := newBoth(t, config(2, 4), 1)
		some := 3 + row.below(12)
		depth := 0
		var between func()
		between = func() {
			for range row.below(4) {
				key := "k" + strconv.Itoa(row.below(some))
				switch kind := row.below(40); {
				case kind < 12:
					x.set(0, key, row.text(row.below(30)), false)
				case kind < 20:
					x.remove(0, key)
				case kind == 20:
					x.drop(0)
				case kind < 24 && depth < 3:
					depth++
					x.ranges(0, &row, between)
					depth--
				}
			}
		}
		for range 30 {
			for range row.below(10) {
				x.set(0, "k"+strconv.Itoa(row.below(some)), row.text(row.below(30)), false)
			}
			x.ranges(0, &row, between)
			x.check()
		}
		for what, times := range x.seen {
			seen[what] += times
		}
	}
	for _, what := range []string{"ranges left", "ranges that ended by Delete", "Drop", "another length error 0", "new error 0"} {
		if seen[what] < 200 {
			t.Errorf("%s: only %d", what, seen[what])
		}
	}
}
