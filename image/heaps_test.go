package image_test

import (
	"bytes"
	"slices"
	"testing"

	"croft/api"
	"croft/image"
	"croft/malloc"
)

// size tells one for a request, most often close to a power of 2 up to a region.
func size(c api.Config, row *numbers) uint64 {
	r := uint64(8) << row.below(11+c.Order)
	return r - uint64(row.below(2)*row.below(int(r)))
}

// answer is what any call on a heap answered.
type answer struct {
	v    uint64
	e    api.Errno
	data string
	all  api.Stats
}

// anyCall does a call on a heap, any of them, and tells what it answered.
func anyCall(h *malloc.Heap, row *numbers) answer {
	deny := row.below(4) == 0
	p, live := uint64(row.below(1<<20)), h.Live()
	if len(live) > 0 && row.below(8) > 0 {
		p = live[row.below(len(live))].P
	}
	n := size(h.Config(), row)
	var a answer
	switch row.below(18) {
	case 0:
		a.v = uint64(h.Trim())
	case 1, 2, 3, 4:
		a.v, a.e = h.Malloc(n, deny)
	case 5:
		a.v, a.e = h.Calloc(1+uint64(row.below(3)), n, deny)
	case 6:
		a.v, a.e = h.AlignedAlloc(1<<row.below(14), n, deny)
	case 7, 8:
		a.v, a.e = h.Realloc(p, n, deny)
	case 9:
		a.v, a.e = h.UsableSize(p)
	case 10:
		a.all = h.Stats()
	default:
		a = anyBytes(h, p, n, row)
	}
	return a
}

// anyBytes does a call on the bytes from p on, or gives the block back.
func anyBytes(h *malloc.Heap, p, n uint64, row *numbers) answer {
	var a answer
	var b byte
	var list []byte
	switch row.below(9) {
	case 0:
		b, a.e = h.Load(p)
		a.v = uint64(b)
	case 1:
		a.v, a.e = h.LoadWord(p)
	case 2:
		list, a.e = h.Read(p, min(n, 64))
		a.data = string(list)
	case 3:
		a.e = h.Store(p, byte(n))
	case 4:
		a.e = h.StoreWord(p, -p)
	case 5:
		a.e = h.Write(p, row.bytes(int(min(n, 64))))
	default:
		a.e = h.Free(p)
	}
	return a
}

// held tells what each live block of a heap holds.
func held(t *testing.T, h *malloc.Heap) [][]byte {
	t.Helper()
	var list [][]byte
	for _, b := range h.Live() {
		got, e := h.Read(b.P, b.Size)
		if e != api.OK {
			t.Fatalf("Read of %v: %v", b, e)
		}
		list = append(list, got)
	}
	return list
}

// again saves a heap, tells it as bytes, parses these and loads it: each step has one answer.
func again(t *testing.T, h *malloc.Heap) *malloc.Heap {
	t.Helper()
	im := image.Save(h)
	wantsSame(t, "Save", im, h.Image())
	wantsSound(t, im, h.Live())
	b := told(t, im)
	if !bytes.Equal(b, flat(im)) {
		t.Fatal("Bytes: other bytes")
	}
	parsed := parses(t, b)
	wantsSame(t, "Parse of Bytes", parsed, im)
	if !bytes.Equal(told(t, parsed), b) {
		t.Fatal("Bytes of Parse: other bytes")
	}
	twin := loads(t, parsed)
	wantsSame(t, "Save of Load", image.Save(twin), im)
	return twin
}

// P10.2, P10.4 to P10.6, T10: heaps of every Order behind many calls, from no region on: saved, told as bytes, parsed and loaded again, they answer every further call as they would have, and tell the same image.
func TestHeapsAgain(t *testing.T) {
	for order := range 9 {
		for seed := range 4 {
			row := numbers(seed)
			h := newHeap(t, config(order, max(1, []int{1, 2, 5, 64}[seed]>>(order/5))))
			twin := again(t, h)
			for i := range 240 >> (order / 3) {
				other := row
				one, two := anyCall(h, &row), anyCall(twin, &other)
				if one != two {
					t.Fatalf("Order %d, the call %d: %v, not %v", order, i, two, one)
				}
				if i%16 == 0 {
					wantsSame(t, "the images", image.Save(twin), image.Save(h))
					twin = again(t, h)
				}
			}
			wantsSame(t, "the images", image.Save(twin), image.Save(h))
			for _, b := range h.Live() {
				h.Free(b.P)
			}
			again(t, again(t, h))
			h.Trim()
			again(t, h)
		}
	}
}

// P10.6: the same of heaps with very many blocks, of each size.
func TestFullHeapsAgain(t *testing.T) {
	for order := range 9 {
		for class := range 9 + order {
			h := newHeap(t, config(order, 2))
			e := api.OK
			for e == api.OK && len(h.Live()) < 600 {
				for range 100 {
					_, e = h.Malloc(16<<class, false)
				}
			}
			twin := again(t, h)
			for i, b := range h.Live() {
				if i%3 > 0 {
					h.Free(b.P)
					twin.Free(b.P)
				}
			}
			wantsSame(t, "the images", image.Save(twin), image.Save(h))
			again(t, h)
		}
	}
}

// P10.2, R5: a heap that was loaded has nothing in common with the one that was saved, nor with another that was loaded of the same image.
func TestLoadedApart(t *testing.T) {
	for seed := range 18 {
		row := numbers(seed)
		h := newHeap(t, config(seed%9, 3))
		for range 60 {
			anyCall(h, &row)
		}
		im := image.Save(h)
		ahead := copied(im)
		one, other := loads(t, im), loads(t, im)
		live := h.Live()
		for range 60 {
			anyCall(one, &row)
		}
		wantsSame(t, "the heap that was saved", image.Save(h), ahead)
		wantsSame(t, "the other one", image.Save(other), ahead)
		wantsSame(t, "the image", im, ahead)
		for range 60 {
			anyCall(h, &row)
		}
		wantsSame(t, "the other one", image.Save(other), ahead)
		if !slices.Equal(other.Live(), live) {
			t.Fatal("other live blocks")
		}
	}
}
