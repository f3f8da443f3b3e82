package dict_test

import (
	"bytes"
	"reflect"
	"slices"
	"strconv"
	"sync"
	"testing"

	"croft/api"
	"croft/dict"
	"croft/malloc"
)

// span is where a list lies, spare room too.
type span struct{ from, to uintptr }

// spanOf tells none of a list without room.
func spanOf(list []byte) []span {
	if cap(list) == 0 {
		return nil
	}
	at := reflect.ValueOf(list).Pointer()
	return []span{{at, at + uintptr(cap(list))}}
}

// wantsApart asks that no two of these share a byte.
func wantsApart(t *testing.T, what string, spans ...[]span) {
	t.Helper()
	all := slices.Concat(spans...)
	for i, one := range all {
		for _, other := range all[:i] {
			if one.from < other.to && other.from < one.to {
				t.Fatalf("%s: two lists share memory", what)
			}
		}
	}
}

// R4: what Get and All give is new memory each time, spare room too: what is done to it is not seen.
func TestListsApart(t *testing.T) {
	x, h := begin(t, config(2, 4))
	setsAll(t, x, "a", "b", "", "a longer key than those")
	sets(t, x, "b", "")
	for range 3 {
		var lists [][]byte
		for _, key := range []string{"a", "b", "", "a longer key than those"} {
			for range 2 {
				value, _ := x.Get([]byte(key))
				lists = append(lists, value)
			}
		}
		for range 2 {
			for key, value := range x.All() {
				lists = append(lists, key, value)
			}
		}
		var spans [][]span
		for _, list := range lists {
			spans = append(spans, spanOf(list))
		}
		wantsApart(t, "answers", spans...)
		unchanged(t, "what is done to an answer", x, h, func() {
			for _, list := range lists {
				clear(list[:cap(list)])
			}
		})
	}
	wantsAll(t, x, pair{"a", "=a"}, pair{"b", ""}, pair{"", "="}, pair{"a longer key than those", "=a longer key than those"})
}

// R4: what a range has given is written over while it goes on: it goes on as it would.
func TestGivenWrittenOver(t *testing.T) {
	x, h := begin(t, config(2, 4))
	setsAll(t, x, keys(20)...)
	was := stateOf(x, h)
	n := 0
	for key, value := range x.All() {
		if string(key) != "key"+strconv.Itoa(n) || string(value) != "=key"+strconv.Itoa(n) {
			t.Fatalf("the step %d gives %q, %q", n, key, value)
		}
		clear(key[:cap(key)])
		clear(value[:cap(value)])
		n++
	}
	if n != 20 || !reflect.DeepEqual(stateOf(x, h), was) {
		t.Fatal("what is done to an answer is seen")
	}
}

// R4: an answer stays what it was, whatever the table does behind it.
func TestAnswersStay(t *testing.T) {
	x, _ := begin(t, config(2, 4))
	sets(t, x, "key", "value")
	value, _ := x.Get([]byte("key"))
	var given [][]byte
	for key, value := range x.All() {
		given = append(given, key, value)
	}
	sets(t, x, "key", "eulav")
	sets(t, x, "key", "of another length")
	x.Drop()
	setsAll(t, x, "yek", "abc")
	if string(value) != "value" || string(given[0]) != "key" || string(given[1]) != "value" {
		t.Errorf("answers have changed: %q, %q", value, given)
	}
}

// R4: what Set, Get and Delete are handed is not changed, spare room included, and not kept: what becomes of it is not seen.
func TestArgumentsApart(t *testing.T) {
	x, h := begin(t, config(0, 4))
	whole := []byte("a key and its value, and spare room")
	was := slices.Clone(whole)
	calls := []func(key, value []byte){
		func(key, value []byte) { x.Set(key, value, false) },
		func(key, value []byte) { x.Set(key, value[:3], false) },
		func(key, value []byte) { x.Set(key, value, true) },
		func(key, value []byte) { x.Get(key) },
		func(key, value []byte) { x.Delete(key[:2]) },
	}
	for n, call := range calls {
		call(whole[:5:20], whole[10:19])
		if !bytes.Equal(whole, was) {
			t.Fatalf("the call %d has changed what it was handed", n)
		}
		unchanged(t, "what is done to an argument", x, h, func() {
			clear(whole)
		})
		copy(whole, was)
	}
	wantsAll(t, x, pair{"a key", "its value"[:9]})
	one := []byte("one and the same")
	wantsError(t, "Set", x.Set(one, one, false), api.OK)
	wantsGet(t, x, string(one), string(one))
	for key, value := range x.All() { // what was given is handed in again
		wantsError(t, "Set", x.Set(value, key, false), api.OK)
		if x.Len() > 6 {
			break
		}
	}
	wantsAll(t, x, pair{"a key", "its value"}, pair{"one and the same", "one and the same"}, pair{"its value", "a key"})
}

// asked is a call that was drawn, to be done on several tables.
type asked struct {
	kind       int
	key, value string
	deny       bool
}

func draw(row *numbers, c api.Config) asked {
	key := drawKey(row, c)
	return asked{row.below(100), key, drawValue(row, c, key), row.below(3) == 0}
}

// does makes the call, and tells all that it answers; of a range, in which other calls are made, at most so many keys.
func does(x *dict.Table, a asked) []any {
	switch {
	case a.kind < 55:
		return []any{set(x, a.key, a.value, a.deny)}
	case a.kind < 75:
		return []any{x.Delete([]byte(a.key))}
	case a.kind < 85:
		value, is := x.Get([]byte(a.key))
		return []any{string(value), is}
	case a.kind < 88:
		return []any{x.Len()}
	case a.kind < 90:
		x.Drop()
		return nil
	}
	var told []any
	for key, value := range x.All() {
		told = append(told, string(key), string(value))
		switch (len(told) + a.kind) % 7 {
		case 0:
			told = append(told, set(x, a.key, a.value, a.deny))
		case 1:
			told = append(told, x.Delete([]byte(a.key)))
		}
		if len(told) > 200 {
			break
		}
	}
	return told
}

// R5: the same is asked of several tables over heaps of their own, with other things asked of one more between: they answer the same, and the heaps are the same byte by byte.
func TestSameAnswers(t *testing.T) {
	for seed := range 40 {
		row, strange := numbers(seed), numbers(seed+500)
		c := config(seed%5, 1+seed%3)
		var tables []*dict.Table
		var heaps []*malloc.Heap
		for range 4 {
			x, h := begin(t, c)
			tables, heaps = append(tables, x), append(heaps, h)
		}
		for range 200 {
			a := draw(&row, c)
			got := does(tables[0], a)
			does(tables[3], draw(&strange, c))
			for _, like := range tables[1:3] {
				if want := does(like, a); !reflect.DeepEqual(got, want) {
					t.Fatalf("%d: %v, and %v", a.kind, got, want)
				}
			}
		}
		for _, like := range heaps[1:3] {
			if !reflect.DeepEqual(heaps[0].Image(), like.Image()) {
				t.Fatal("two heaps differ behind the same calls")
			}
		}
	}
}

// R5: two tables over one heap have nothing in common: the same keys, other values; one is dropped.
func TestTwoTables(t *testing.T) {
	h := newHeap(t, config(2, 16))
	x, y := newTable(t, h), newTable(t, h)
	for i, key := range keys(60) {
		sets(t, x, key, "x"+key)
		if i%2 == 0 {
			sets(t, y, key, "of y "+key)
		}
	}
	for i, key := range keys(60) {
		wantsGet(t, x, key, "x"+key)
		if i%2 == 0 {
			wantsGet(t, y, key, "of y "+key)
		} else {
			wantsNone(t, y, h, key)
		}
		if i%3 == 0 {
			deletes(t, x, key)
		}
	}
	if x.Len() != 40 || y.Len() != 30 {
		t.Fatalf("Len: %d, %d", x.Len(), y.Len())
	}
	was := all(y)
	x.Drop()
	wantsAll(t, y, was...)
	setsAll(t, x, keys(10)...)
	wantsAll(t, y, was...)
	y.Drop()
	wantsKeys(t, x, keys(10)...)
	x.Drop()
	wantsLive(t, h)
}

// R3: calls that are refused are asked of one table alone: it answers from then on what its twin does, which was not asked.
func TestRefusedIsNotSeen(t *testing.T) {
	for seed := range 40 {
		row := numbers(seed)
		c := config(seed%3, 1+seed%3)
		x, h := begin(t, c)
		twin, other := begin(t, c)
		for range 200 {
			a := draw(&row, c)
			if a.kind == 88 || a.kind == 89 { // without a row a region may come for a refused Set
				continue
			}
			if got, want := does(x, a), does(twin, a); !reflect.DeepEqual(got, want) {
				t.Fatalf("%d: %v, and %v", a.kind, got, want)
			}
			key := drawKey(&row, c)
			wantsError(t, "Set", set(x, key, long("", 65537), false), api.ELIMIT)
			wantsError(t, "Set", set(x, key, long("", 65536-len(key)), false), api.ETOOBIG)
			x.Delete([]byte("not there"))
			x.Get([]byte("nor this"))
		}
		if !reflect.DeepEqual(stateOf(x, h), stateOf(twin, other)) {
			t.Fatal("refused calls are seen")
		}
	}
}

// R1: every call ends, and none panics, at all arguments: of a new table, of one with keys, of a dropped one, over a full heap.
func TestNoPanic(t *testing.T) {
	lists := [][]byte{nil, {}, {0}, []byte("a"), make([]byte, 23), make([]byte, 24), make([]byte, 25), make([]byte, 4055), make([]byte, 4056), make([]byte, 4057), make([]byte, 65496), make([]byte, 65535), make([]byte, 65536), make([]byte, 65537), make([]byte, 1<<21)}
	for _, c := range []api.Config{config(0, 1), config(0, 2), config(1, 2), {Base: 1<<63 - 1<<22, Limit: 4, Order: 8}} {
		for _, full := range []bool{false, true} {
			x, h := begin(t, c)
			for n := range 4 {
				if full && n == 2 {
					fills(h, 4096, false)
					fills(h, 64, false)
				}
				for _, key := range lists {
					for _, value := range lists {
						x.Set(key, value, true)
						x.Get(key)
						x.Set(key, value, false)
						x.Delete(value)
						x.Len()
					}
				}
				all(x)
				if n%2 == 0 {
					x.Drop()
				}
			}
		}
	}
}

// R5: tables of several goroutines over one heap: each is asked by one alone, and what it keeps is there.
func TestSideBySide(t *testing.T) {
	h := newHeap(t, config(6, 16))
	wrong := make([]int, 8)
	var done sync.WaitGroup
	for i := range wrong {
		x := newTable(t, h)
		done.Go(func() {
			row := numbers(i)
			want := map[string]string{}
			for range 1500 {
				key, value := strconv.Itoa(row.below(60)), row.text(row.below(50))
				if row.below(3) == 0 {
					_, is := want[key]
					if x.Delete([]byte(key)) != is {
						wrong[i]++
					}
					delete(want, key)
					continue
				}
				if set(x, key, value, false) != api.OK {
					wrong[i]++
				}
				want[key] = value
			}
			n := 0
			for key, value := range x.All() {
				if want[string(key)] != string(value) {
					wrong[i]++
				}
				n++
			}
			if n != len(want) || x.Len() != n {
				wrong[i]++
			}
			x.Drop()
		})
	}
	done.Wait()
	if slices.Max(wrong) != 0 {
		t.Errorf("what went wrong: %v", wrong)
	}
	wantsLive(t, h)
}
