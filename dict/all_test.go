package dict_test

import (
	"iter"
	"slices"
	"strconv"
	"testing"

	"croft/api"
	"croft/dict"
)

// walked tells the keys that a range gives; ahead of each step but the first it does what is to be done behind that key.
func walked(x *dict.Table, does map[string]func()) []string {
	var list []string
	for key := range x.All() {
		list = append(list, string(key))
		if do := does[string(key)]; do != nil {
			do()
		}
	}
	return list
}

// wantsWalk goes over a table with the keys a to e, where something is done when a key is given, and asks for the keys that it gives.
func wantsWalk(t *testing.T, x *dict.Table, at string, do func(), want ...string) {
	t.Helper()
	if got := walked(x, map[string]func(){at: do}); !slices.Equal(got, want) {
		t.Fatalf("the range gives %q, not %q", got, want)
	}
}

// letters is a table with the keys a to e.
func letters(t *testing.T) *dict.Table {
	t.Helper()
	x, _ := begin(t, config(3, 8))
	setsAll(t, x, "a", "b", "c", "d", "e")
	return x
}

// P19.5: keys come in the order of coming; one keeps its place when it is set anew, with the same length and with another; one that was deleted comes last when it is set again.
func TestOrderOfComing(t *testing.T) {
	x := letters(t)
	for _, key := range []string{"c", "a", "e"} {
		sets(t, x, key, "+"+key)
		sets(t, x, key, "of another length")
		sets(t, x, key, "="+key)
		wantsKeys(t, x, "a", "b", "c", "d", "e")
	}
	deletes(t, x, "b", "e", "a")
	wantsKeys(t, x, "c", "d")
	setsAll(t, x, "a", "b")
	wantsKeys(t, x, "c", "d", "a", "b")
	deletes(t, x, "c", "d", "a", "b")
	wantsKeys(t, x)
	setsAll(t, x, "e", "a")
	wantsKeys(t, x, "e", "a")
}

// P19.5: a range that is left early, one begun anew, one and the same All ranged over again and again: each begins at what is first then.
func TestRangesBeginAnew(t *testing.T) {
	x := letters(t)
	every := x.All()
	for _, end := range []string{"a", "c", "e"} {
		for key := range every {
			if string(key) == end {
				break
			}
		}
		wantsKeys(t, x, "a", "b", "c", "d", "e")
	}
	first := func() (is string) {
		for key := range every {
			return string(key)
		}
		return "none"
	}
	for _, key := range []string{"a", "b", "c", "d", "e"} {
		if got := first(); got != key {
			t.Fatalf("the first one is %s, not %s", got, key)
		}
		deletes(t, x, key)
	}
	if got := first(); got != "none" {
		t.Fatalf("an empty table gives %s", got)
	}
	x.Drop()
	if got := first(); got != "none" {
		t.Fatalf("a dropped table gives %s", got)
	}
	setsAll(t, x, "z")
	if got := first(); got != "z" {
		t.Fatalf("the first one is %s, not z", got)
	}
}

// P19.5: a key is set while a range goes on: the one given last, with the same length and with another; one ahead of it; the one behind.
func TestSetAnewInRange(t *testing.T) {
	for _, at := range []string{"a", "c", "e"} {
		for _, key := range []string{"a", "b", "c", "d", "e"} {
			for _, value := range []string{"+" + key, "", "of another length", long("", 9000)} {
				x := letters(t)
				wantsWalk(t, x, at, func() { sets(t, x, key, value) }, "a", "b", "c", "d", "e")
				wantsGet(t, x, key, value)
			}
		}
	}
	x := letters(t)
	var got []string
	for _, value := range x.All() {
		got = append(got, string(value))
		sets(t, x, "b", "B")
		sets(t, x, "c", "another C")
		sets(t, x, "a", "not seen")
	}
	if !slices.Equal(got, []string{"=a", "B", "another C", "=d", "=e"}) {
		t.Fatalf("the range gives %q", got)
	}
}

// P19.5: another key is set while a range goes on: it comes behind all, also behind the last one that was there.
func TestOtherSetInRange(t *testing.T) {
	for _, at := range []string{"a", "c", "e"} {
		x := letters(t)
		wantsWalk(t, x, at, func() { setsAll(t, x, "f", "g") }, "a", "b", "c", "d", "e", "f", "g")
		wantsKeys(t, x, "a", "b", "c", "d", "e", "f", "g")
	}
	x := letters(t)
	n := 0
	for range x.All() { // rows grow meanwhile
		if n++; n <= 100 {
			sets(t, x, "more"+strconv.Itoa(n), "")
		}
	}
	if n != 105 || x.Len() != 105 {
		t.Fatalf("the range gave %d keys of %d", n, x.Len())
	}
}

// P19.5: the one given last is deleted while a range goes on: nothing more is given, whatever else is done; not even if a key comes whose entry lies where the old one did, or the same key comes again.
func TestLastDeletedInRange(t *testing.T) {
	until := []string{"a", "b", "c", "d", "e"}
	for i, at := range until {
		x := letters(t)
		wantsWalk(t, x, at, func() { deletes(t, x, at) }, until[:i+1]...)

		x = letters(t)
		wantsWalk(t, x, at, func() { deletes(t, x, at); setsAll(t, x, "f", "g") }, until[:i+1]...)

		x = letters(t)
		wantsWalk(t, x, at, func() { deletes(t, x, at); setsAll(t, x, at) }, until[:i+1]...)

		x = letters(t)
		wantsWalk(t, x, at, func() { deletes(t, x, at); setsAll(t, x, at, "f") }, until[:i+1]...)

		x = letters(t)
		wantsWalk(t, x, at, func() { sets(t, x, at, "of another length"); deletes(t, x, at) }, until[:i+1]...)
	}
}

// P19.5: the block of the one that was given last comes again for another key.
func TestAddressComesAgain(t *testing.T) {
	x, h := begin(t, config(3, 8))
	setsAll(t, x, "a", "b", "c")
	at := h.Config().Base + 2*64
	wantsEntry(t, h, at, 0, at-64, at+64, "b", "=b")
	wantsWalk(t, x, "b", func() {
		deletes(t, x, "b")
		setsAll(t, x, "q", "r")
		got, _ := h.Read(at+40, 3)
		same(t, "where b was", got, []byte("q=q"))
	}, "a", "b")
}

// P19.5: others are deleted while a range goes on: the one behind, the one ahead, all but the one given last.
func TestOthersDeletedInRange(t *testing.T) {
	for _, try := range []struct {
		at    string
		goes  []string
		gives []string
	}{
		{"a", []string{"b"}, []string{"a", "c", "d", "e"}},
		{"a", []string{"b", "c"}, []string{"a", "d", "e"}},
		{"b", []string{"a"}, []string{"a", "b", "c", "d", "e"}},
		{"b", []string{"a", "c"}, []string{"a", "b", "d", "e"}},
		{"d", []string{"e"}, []string{"a", "b", "c", "d"}},
		{"c", []string{"e", "a", "d", "b"}, []string{"a", "b", "c"}},
		{"e", []string{"a", "b", "c", "d"}, []string{"a", "b", "c", "d", "e"}},
	} {
		x := letters(t)
		wantsWalk(t, x, try.at, func() { deletes(t, x, try.goes...) }, try.gives...)
		x = letters(t)
		again := func() { deletes(t, x, try.goes...); setsAll(t, x, try.goes...) }
		wantsWalk(t, x, try.at, again, slices.Concat(try.gives, try.goes)...) // they stand behind all then
	}
}

// P19.5, P19.6: the table is dropped while a range goes on: nothing more is given, also if it is used again.
func TestDroppedInRange(t *testing.T) {
	until := []string{"a", "b", "c", "d", "e"}
	for i, at := range until {
		x := letters(t)
		wantsWalk(t, x, at, x.Drop, until[:i+1]...)
		wantsKeys(t, x)
		x = letters(t)
		wantsWalk(t, x, at, func() { x.Drop(); setsAll(t, x, until...) }, until[:i+1]...)
		wantsKeys(t, x, until...)
		x = letters(t)
		wantsWalk(t, x, at, func() { x.Drop(); x.Drop() }, until[:i+1]...)
	}
}

// P19.5: a Set that is refused while a range goes on changes nothing of it.
func TestRefusedInRange(t *testing.T) {
	x := letters(t)
	for _, key := range []string{"a", "b", "z"} {
		wantsWalk(t, x, "a", func() {
			wantsError(t, "Set", set(x, key, long("", 40000), false), api.ETOOBIG)
			wantsError(t, "Set", set(x, key, long("", 70000), false), api.ELIMIT)
			wantsError(t, "Set", set(x, key, long("", 30000), true), api.ENOMEM)
		}, "a", "b", "c", "d", "e")
	}
}

// P19.5: one key goes and one comes at each step: the range goes on as long as one likes.
func TestLongRange(t *testing.T) {
	x, h := begin(t, config(0, 1))
	sets(t, x, "0", "=0")
	n := 0
	for key := range x.All() {
		if string(key) != strconv.Itoa(n) {
			t.Fatalf("the step %d gives %q", n, key)
		}
		if n > 0 {
			deletes(t, x, strconv.Itoa(n-1))
		}
		if n++; n < 5000 {
			setsAll(t, x, strconv.Itoa(n))
		}
	}
	wantsKeys(t, x, "4999")
	if got := h.Stats(); n != 5000 || got.H != 4096 {
		t.Fatalf("%d steps, the heap's Stats: %+v", n, got)
	}
}

// P19.5: ranges within ranges, each at a place of its own; what an inner one deletes an outer one sees.
func TestRangesInRanges(t *testing.T) {
	x := letters(t)
	got := ""
	for one := range x.All() {
		for other := range x.All() {
			got += string(one) + string(other) + " "
			if string(one) == "b" && string(other) == "d" {
				deletes(t, x, "c", "d")
			}
			if string(one) == "e" && string(other) == "b" {
				deletes(t, x, "e")
			}
		}
	}
	if want := "aa ab ac ad ae ba bb bc bd ea eb "; got != want {
		t.Fatalf("%q, not %q", got, want)
	}
	wantsKeys(t, x, "a", "b")
}

// P19.5: ranges that go on side by side, one step each.
func TestRangesSideBySide(t *testing.T) {
	x := letters(t)
	type step struct {
		key, value string
		is         bool
	}
	var next []func() ([]byte, []byte, bool)
	for range 3 {
		one, stop := iter.Pull2(x.All())
		defer stop()
		next = append(next, one)
	}
	asks := func(i int, want string) {
		t.Helper()
		key, value, is := next[i]()
		if got := (step{string(key), string(value), is}); got != (step{want, "=" + want, true}) {
			t.Fatalf("the range %d gives %v", i, got)
		}
	}
	asks(0, "a")
	asks(0, "b")
	asks(1, "a")
	deletes(t, x, "b")
	asks(1, "c")
	asks(2, "a")
	if _, _, is := next[0](); is {
		t.Fatal("what was given last is deleted, and more is given")
	}
	sets(t, x, "c", "of another length")
	sets(t, x, "d", "=d")
	asks(1, "d")
	deletes(t, x, "a", "c", "e")
	if _, _, is := next[2](); is {
		t.Fatal("what was given last is deleted, and more is given")
	}
	setsAll(t, x, "b")
	asks(1, "b")
	if _, _, is := next[1](); is {
		t.Fatal("more is given than there is")
	}
}

// P19.5: who leaves a range by a panic spoils nothing.
func TestRangePanics(t *testing.T) {
	x := letters(t)
	if !panics(func() {
		for key := range x.All() {
			if string(key) == "c" {
				panic("enough")
			}
		}
	}) {
		t.Fatal("the panic is lost")
	}
	wantsKeys(t, x, "a", "b", "c", "d", "e")
	deletes(t, x, "c")
	wantsKeys(t, x, "a", "b", "d", "e")
}

// P19.5, R5: what is done to another table over the same heap does nothing to a range.
func TestOtherTableInRange(t *testing.T) {
	h := newHeap(t, config(3, 8))
	x, y := newTable(t, h), newTable(t, h)
	setsAll(t, x, "a", "b", "c")
	setsAll(t, y, "a", "b", "c")
	wantsWalk(t, x, "a", func() { deletes(t, y, "a", "b"); setsAll(t, y, "d") }, "a", "b", "c")
	wantsWalk(t, x, "b", y.Drop, "a", "b", "c")
	wantsKeys(t, x, "a", "b", "c")
	wantsKeys(t, y)
}
