package dict_test

import (
	"reflect"
	"testing"

	"croft/api"
	"croft/dict"
	"croft/malloc"
)

// refusesNew asks that New is refused, and that the heap does not change.
func refusesNew(t *testing.T, h *malloc.Heap, deny bool) {
	t.Helper()
	was := h.Image()
	if x, e := dict.New(h, deny); x != nil || e != api.ENOMEM {
		t.Fatalf("New: %v, %v", x, e)
	}
	if !reflect.DeepEqual(h.Image(), was) {
		t.Fatal("a refused New has changed the heap")
	}
}

// P19.2: what the heap's Calloc(8, 8) answers, on heaps of all orders, denied and not: new, with room, and full.
func TestNew(t *testing.T) {
	for order := range 9 {
		c := config(order, 2)
		h, twin := newHeap(t, c), newHeap(t, c)
		refusesNew(t, h, true)
		for n := range 2*regionBytes(c)/64 + 2 {
			if order > 2 && n == 500 {
				break
			}
			deny := n%3 == 1
			p, e := twin.Calloc(8, 8, deny)
			if e != api.OK {
				refusesNew(t, h, deny)
				continue
			}
			x, e := dict.New(h, deny)
			if e != api.OK {
				t.Fatalf("New: %v", e)
			}
			wantsWords(t, "the row", h, p, 0, 0, 0, 0, 0, 0, 0, 0)
			if n%50 == 0 {
				wantsAll(t, x)
				wantsNone(t, x, h, "", "a")
			}
		}
		wantsLive(t, h, twin.Live()...)
	}
}

// P19.2: where no page is free and none has cells of 64 bytes.
func TestNewWithoutRoom(t *testing.T) {
	h := newHeap(t, config(0, 3))
	list := fills(h, 16, false)
	refusesNew(t, h, false)
	refusesNew(t, h, true)
	for _, p := range list[:256] {
		wantsError(t, "the heap's Free", h.Free(p), api.OK)
	}
	x, e := dict.New(h, true)
	wantsError(t, "New", e, api.OK)
	wantsAll(t, x)
	wantsWords(t, "the row", h, list[0], 0, 0, 0, 0, 0, 0, 0, 0)
}

// P19.2, P19.6: a dropped table is empty, and has no row; every call on it; it may be used again, and dropped again.
func TestDropped(t *testing.T) {
	for _, many := range []int{0, 1, 3, 9, 50} {
		x, h := begin(t, config(1, 8))
		setsAll(t, x, keys(many)...)
		for range 3 {
			x.Drop()
			wantsLive(t, h)
			wantsAll(t, x)
			wantsNone(t, x, h, "", "key0", "key1")
			unchanged(t, "Drop of a dropped table", x, h, x.Drop)
			sets(t, x, "again", "=again")
			wantsKeys(t, x, "again")
			if got := h.Stats(); got.Blocks != 2 || got.L != 128 {
				t.Fatalf("the heap's Stats: %+v", got)
			}
			setsAll(t, x, keys(many)...)
			wantsKeys(t, x, append([]string{"again"}, keys(many)...)...)
		}
	}
}
