package count_test

import (
	"bytes"
	"slices"
	"testing"

	"croft/api"
	"croft/count"
)

// P18.1: New: no objects, and nothing asked of the heap, whatever there is on it.
func TestNew(t *testing.T) {
	h := newHeap(t, config(1, 2))
	for range 2 {
		ahead := h.Stats()
		s := count.New(h)
		wantsObjects(t, s)
		wantsSwept(t, s, 0, 0)
		if got := h.Stats(); got != ahead {
			t.Errorf("New has changed the heap: %+v, not %+v", got, ahead)
		}
		p, _ := h.Malloc(16, false)
		refusesObject(t, s, h, p)
	}
}

// P18.1: words or bytes below 0, whatever the other is: ahead of ETOOBIG and ENOMEM, on a new heap and on a full one.
func TestMakeBelowZero(t *testing.T) {
	s, h := begin(t, example())
	for range 2 {
		for _, below := range []int{-1, -2, -8, -4096, -1 << 32, -1 << 60, -1 << 61, bottom + 1, bottom} {
			for _, other := range []int{0, 1, 512, 4096, 4097, 1 << 61, top, -1, bottom} {
				for _, deny := range []bool{false, true} {
					refusesMake(t, s, h, below, other, deny, api.EINVAL)
					refusesMake(t, s, h, other, below, deny, api.EINVAL)
				}
			}
		}
		s.Make(512, 0, false) // the heap is full from now on
	}
	wantsObjects(t, s, 65536)
}

// P18.1: 8 words + bytes just R, and one more, however they are parted; ETOOBIG is ahead of ENOMEM.
func TestMakeOfRegion(t *testing.T) {
	for order := range 9 {
		c := config(order, 1)
		r := int(regionBytes(c))
		for _, words := range []int{0, 1, 2, r/16 - 1, r / 16, r/8 - 1, r / 8} {
			s, h := begin(t, c)
			rest := r - 8*words
			refusesMake(t, s, h, words, rest+1, false, api.ETOOBIG)
			refusesMake(t, s, h, words, rest+1, true, api.ETOOBIG)
			refusesMake(t, s, h, words, rest, true, api.ENOMEM)
			wants(t, "Make", told(s.Make(words, rest, false)), answer{c.Base, api.OK})
			wantsLive(t, h, api.Block{P: c.Base, Size: uint64(r)})
			refusesMake(t, s, h, words, rest, false, api.ENOMEM)
			refusesMake(t, s, h, words, rest+1, false, api.ETOOBIG)
			refusesMake(t, s, h, r/8+1, 0, false, api.ETOOBIG)
		}
	}
}

// P18.1: numbers whose exact sum is past 2^63 - 1 or 2^64 - 1, though it is a small one if it wraps round.
func TestMakeOfGreatSums(t *testing.T) {
	forms := [][2]int{
		{1 << 60, 0}, {1<<60 - 1, 7}, {1<<60 - 1, 8}, {1<<60 - 1, top}, {1 << 60, top}, {1 << 60, 1}, // from 2^63 - 1 on
		{1 << 61, 0}, {1 << 61, 16}, {1<<61 + 1, 0}, {1<<61 + 2, 3}, {1<<61 - 1, 8}, {1<<61 - 1, 24}, {1<<61 - 2, 32}, // 2^64 and some
		{1 << 62, 0}, {1 << 62, 1 << 62}, {3 << 61, 16}, {1<<62 + 1, 8}, {3<<60 + 1, 8}, {top, 0}, {top, 8}, {top, 24}, {top, top},
		{0, top}, {1, top}, {1, top - 8}, {0, 1 << 62}, {0, 1<<32 + 16}, {1 << 29, 0}, {1<<29 + 2, 0}, {1 << 32, 0}, {1<<32 + 1, 1},
	}
	for _, c := range []api.Config{config(0, 2), config(8, 2)} {
		s, h := begin(t, c)
		for range 2 {
			for _, form := range forms {
				refusesMake(t, s, h, form[0], form[1], false, api.ETOOBIG)
				refusesMake(t, s, h, form[0], form[1], true, api.ETOOBIG)
			}
			makes(t, s, 0, int(regionBytes(c)))
		}
		wantsObjects(t, s, c.Base, c.Base+regionBytes(c))
	}
}

// P18.1: no words, no bytes, neither: a block of the least size comes all the same, and an object of its own.
func TestMakeOfNothing(t *testing.T) {
	s, h := begin(t, example())
	list := []uint64{makes(t, s, 0, 0), makes(t, s, 0, 0), makes(t, s, 0, 16), makes(t, s, 2, 0)}
	wantsObjects(t, s, 65536, 65552, 65568, 65584)
	for _, p := range list[:2] {
		refusesWord(t, s, h, p, 0)
		refusesBytes(t, s, h, p, 0, 1, api.EFAULT)
		wantsBytes(t, s, p, 0, nil)
		wantsCount(t, s, 1, p)
	}
	puts(t, s, list[3], 1, list[0])
	wantsCount(t, s, 2, list[0])
	drops(t, s, list[1])
	wantsObjects(t, s, list[0], list[2], list[3])
}

// P18.1: a new object is kept by hand, and just once, whatever its form is and whatever was made there ahead of it.
func TestMadeIsKeptOnce(t *testing.T) {
	s, h := begin(t, config(1, 2))
	for _, form := range [][2]int{{0, 0}, {1, 0}, {0, 1}, {5, 7}, {512, 0}, {0, 4096}, {1024, 0}} {
		for range 3 {
			p := makes(t, s, form[0], form[1])
			wantsCount(t, s, 1, p)
			wantsSwept(t, s, 0, 0)
			keeps(t, s, p, p)
			drops(t, s, p, p)
			wantsCount(t, s, 1, p)
			drops(t, s, p)
			refusesObject(t, s, h, p)
			wantsLive(t, h)
		}
	}
}

// P18.1: the block is the one for 8 words + bytes, for each small form.
func TestBlockOfObject(t *testing.T) {
	s, h := begin(t, config(8, 4))
	for words := range 40 {
		for _, bytes := range []int{0, 1, 7, 8, 9, 15, 16, 17, 100, 4095, 4096, 4097} {
			p := makes(t, s, words, bytes)
			if got, _ := h.UsableSize(p); got != sizeFor(h.Config(), uint64(8*words+bytes)) {
				t.Fatalf("%d words and %d bytes: a block of %d", words, bytes, got)
			}
		}
	}
}

// P18.1: all words and bytes are 0, whatever the block held when it was another's; its spare bytes, too.
func TestMadeOfZeros(t *testing.T) {
	for r := 16; r <= 8192; r *= 2 {
		for _, words := range []int{0, 1, r / 16, r / 8} {
			for _, rest := range []int{r - 8*words, max(0, r/2+1-8*words)} {
				s, h := begin(t, config(1, 1))
				p, _ := h.Malloc(uint64(r), false)
				h.Write(p, bytes.Repeat([]byte{0xff}, r))
				h.Free(p)
				wants(t, "Make", told(s.Make(words, rest, true)), answer{p, api.OK})
				for word := range words {
					wantsWord(t, s, p, word, 0)
				}
				wantsBytes(t, s, p, 0, make([]byte, rest))
				if held, e := h.Read(p, uint64(r)); e != api.OK || !bytes.Equal(held, make([]byte, r)) {
					t.Errorf("the block of %d: %v, and it holds %v", r, e, held)
				}
			}
		}
	}
}

// P18.1: denied it comes where the heap has a place, else ENOMEM; not denied a region comes.
func TestMakeDenied(t *testing.T) {
	s, h := begin(t, config(0, 2))
	refusesMake(t, s, h, 0, 0, true, api.ENOMEM)
	p := makes(t, s, 1, 0)
	wants(t, "Make", told(s.Make(2, 0, true)), answer{p + 16, api.OK})
	refusesMake(t, s, h, 2, 1, true, api.ENOMEM)
	refusesMake(t, s, h, 512, 0, true, api.ENOMEM)
	wants(t, "Make", told(s.Make(2, 1, false)), answer{p + 4096, api.OK})
	wants(t, "Make", told(s.Make(3, 8, true)), answer{p + 4096 + 32, api.OK})
	refusesMake(t, s, h, 6, 0, false, api.ENOMEM)
	wantsObjects(t, s, p, p+16, p+4096, p+4096+32)
	if got := h.Stats().H; got != 8192 {
		t.Errorf("H is %d", got)
	}
}

// P18.1: what Make answers is what Calloc(1, 8 words + bytes) of the same heap would, and does to the heap just that.
func TestMakeIsCalloc(t *testing.T) {
	for seed := range 60 {
		row := numbers(seed)
		c := config(seed%9, 1+seed%4)
		s, h := begin(t, c)
		twin := newHeap(t, c)
		for range 60 {
			words, bytes := row.form(c)
			deny := row.below(2) == 0
			wants(t, "Make", told(s.Make(words, bytes, deny)), told(twin.Calloc(1, uint64(8*words+bytes), deny)))
		}
		if got, want := h.Live(), twin.Live(); !slices.Equal(got, want) {
			t.Fatalf("the heap's Live: %v, not %v", got, want)
		}
	}
}

// P18.6: in the order in which they were made, not as they lie; refused ones leave no gap.
func TestObjectsInOrder(t *testing.T) {
	s, h := begin(t, config(5, 2))
	var want []uint64
	for i := range 40 {
		want = append(want, makes(t, s, []int{600, 1, 40, 2, 9}[i%5], 0))
		refusesMake(t, s, h, -1, 0, false, api.EINVAL)
		refusesMake(t, s, h, 1<<40, 0, false, api.ETOOBIG)
		wantsObjects(t, s, want...)
	}
	if slices.IsSorted(want) {
		t.Fatal("they lie as they were made: the order is not seen")
	}
	for i := range want {
		if i != 3 && i != 7 {
			drops(t, s, want[i])
		}
	}
	wantsObjects(t, s, want[3], want[7])
	want = append([]uint64{want[3], want[7]}, makesMany(t, s, 30, 3, 0)...)
	wantsObjects(t, s, want...)
	keeps(t, s, want[20])
	puts(t, s, want[25], 0, want[24])
	wantsObjects(t, s, want...)
}
