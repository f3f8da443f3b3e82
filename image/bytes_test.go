package image_test

import (
	"bytes"
	"math"
	"slices"
	"testing"

	"croft/api"
)

// tellsBoth asks for the table's bytes of an image, and for the image of these.
func tellsBoth(t *testing.T, what string, im api.Image) []byte {
	t.Helper()
	b := told(t, im)
	if want := flat(im); !bytes.Equal(b, want) {
		t.Fatalf("%s: Bytes: %d bytes, not the %d of the table", what, len(b), len(want))
	}
	wantsSame(t, what, parses(t, b), im)
	return b
}

// P10.4: an image of one region of two pages, written out.
func TestBytesWrittenOut(t *testing.T) {
	im := api.Image{
		Config: api.Config{Base: 0x0102030405060000 + 0x2000, Limit: 64, Order: 1}, Regions: 1,
		Mem: bytes.Repeat([]byte{9, 8}, 4096),
		Pages: []api.Page{
			{Kind: 4, Order: 0, Class: 7, Live: 256, Next: 1, Prev: -1, First: 255, Bits: [4]uint64{0x0807060504030201, 2, 3, 1 << 63}},
			{Kind: 1, Order: 1, Class: 0, Live: 0, Next: -1, Prev: 0, First: -1, Bits: [4]uint64{math.MaxUint64, 0, 0, 5}},
		},
		Pairs: [][]uint64{{0x1817161514131211}}, Heads: []uint64{0x2827262524232221, 3}, Partial: []int{-1, 0, 1, -1, -1, -1, 1, 0},
	}
	want := slices.Concat(
		[]byte{67, 82, 70, 1, 64, 1, 0, 0x20, 6, 5, 4, 3, 2, 1, 1},
		[]byte{4, 0, 7, 0, 1, 1, 0, 255, 255, 255, 0},
		[]byte{1, 2, 3, 4, 5, 6, 7, 8, 2, 0, 0, 0, 0, 0, 0, 0, 3, 0, 0, 0, 0, 0, 0, 0, 0, 0, 0, 0, 0, 0, 0, 0x80},
		[]byte{1, 1, 0, 0, 0, 255, 255, 0, 0, 255, 255},
		[]byte{255, 255, 255, 255, 255, 255, 255, 255, 0, 0, 0, 0, 0, 0, 0, 0, 0, 0, 0, 0, 0, 0, 0, 0, 5, 0, 0, 0, 0, 0, 0, 0},
		[]byte{0x11, 0x12, 0x13, 0x14, 0x15, 0x16, 0x17, 0x18},
		[]byte{0x21, 0x22, 0x23, 0x24, 0x25, 0x26, 0x27, 0x28, 3, 0, 0, 0, 0, 0, 0, 0},
		[]byte{255, 255, 0, 0, 1, 0, 255, 255, 255, 255, 255, 255, 1, 0, 0, 0},
		bytes.Repeat([]byte{9, 8}, 4096),
	)
	if got := tellsBoth(t, "written out", im); !bytes.Equal(got, want) {
		t.Errorf("%v", got[:len(got)-8192])
	}
}

// P10.4: Order 0 has no pairs; of no region there are no pages.
func TestBytesOfOrder0(t *testing.T) {
	c := api.Config{Base: 4096, Limit: 1}
	im := lays(t, c, 1, []api.Block{{P: 4096 + 2048, Size: 2048}}, nil)
	want := slices.Concat(
		[]byte{67, 82, 70, 1, 1, 0, 0, 16, 0, 0, 0, 0, 0, 0, 1},
		[]byte{4, 0, 7, 1, 0, 255, 255, 255, 255, 0, 0, 2}, make([]byte, 31),
		make([]byte, 8), bytes.Repeat([]byte{255}, 14), make([]byte, 2), make([]byte, 4096),
	)
	if got := tellsBoth(t, "Order 0", im); !bytes.Equal(got, want) {
		t.Errorf("%v", got[:15+43+8+16])
	}
	none := lays(t, c, 0, nil, nil)
	if got := tellsBoth(t, "no region", none); !bytes.Equal(got, slices.Concat(want[:14], []byte{0}, make([]byte, 8), bytes.Repeat([]byte{255}, 16))) {
		t.Errorf("%v", got)
	}
}

// P10.4 to P10.6: images of every Order, from no region to all of Limit, with fields anywhere in their ranges: Parse of Bytes is the image, Bytes of Parse is the bytes.
func TestRanged(t *testing.T) {
	for order := range 9 {
		for seed := range 12 {
			row := numbers(seed)
			c := config(order, 1+row.below(max(1, 40>>order)))
			im := ranged(c, row.below(c.Limit+1), &row)
			b := tellsBoth(t, "in range", im)
			if wrongAt(b) != -1 {
				t.Fatal("the model of Parse is wrong")
			}
			if !bytes.Equal(told(t, parses(t, b)), b) {
				t.Fatal("Bytes of Parse: other bytes")
			}
		}
	}
}

// P10.4, P10.5: the greatest number of pages of each Order.
func TestGreatestBytes(t *testing.T) {
	for order := range 9 {
		row := numbers(order)
		limit := min(64, 1024>>order)
		c := api.Config{Base: 1<<63 - uint64(limit)*4096<<order, Limit: limit, Order: order}
		im := ranged(c, limit, &row)
		im.Pages[0].Next, im.Pages[1].Prev = len(im.Pages)-1, len(im.Pages)-1
		b := tellsBoth(t, "all of Limit", im)
		refusesParse(t, "one byte less", b[:len(b)-1], len(b)-1)
		refusesParse(t, "one byte more", append(b, 0), len(b))
		refusesParse(t, "the page behind the last", with(b, 15+5, raw(len(im.Pages), 2)...), 15+5)
		im.Pages[0].Next++
		refusesBytes(t, "the page behind the last", im, api.EFORM)
	}
}

// fields tells pointers to the numbers of a page, and their ranges.
func fields(im *api.Image, number int) (list []*int, ends [][2]int) {
	p := &im.Pages[number]
	last := len(im.Pages) - 1
	return []*int{&p.Kind, &p.Order, &p.Class, &p.Live, &p.Next, &p.Prev, &p.First},
		[][2]int{{0, 4}, {0, im.Config.Order}, {0, 7}, {0, 256}, {-1, last}, {-1, last}, {-1, 255}}
}

// past tells numbers beyond a range, some of which would be in it if their higher bytes were left off.
func past(ends [2]int) []int {
	return []int{
		ends[0] - 1, ends[1] + 1, ends[0] - 256, ends[1] + 256, ends[0] + 65536, ends[1] + 65536, ends[0] - 65536,
		65535, 65534, 32768, ends[0] - 1<<32, ends[1] + 1<<32, math.MinInt, math.MaxInt,
	}
}

// P10.1, P10.4: each field of a page, and each of Partial, at each end of its range, and past it.
func TestFields(t *testing.T) {
	for _, c := range []api.Config{config(0, 3), config(1, 2), config(3, 2), config(6, 1)} {
		row := numbers(c.Order)
		im := ranged(c, c.Limit, &row)
		for _, number := range []int{0, 1, len(im.Pages) / 2, len(im.Pages) - 1} {
			list, ends := fields(&im, number%len(im.Pages))
			for i, field := range list {
				checkField(t, im, field, ends[i])
			}
		}
		for class := range im.Partial {
			checkField(t, im, &im.Partial[class], [2]int{-1, len(im.Pages) - 1})
		}
	}
}

// checkField turns a number of an image, and turns it back.
func checkField(t *testing.T, im api.Image, field *int, ends [2]int) {
	t.Helper()
	was := *field
	for _, *field = range []int{ends[0], ends[0] + 1, ends[1] - 1, ends[1]} {
		if ends[0] <= *field && *field <= ends[1] {
			tellsBoth(t, "in range", im)
		}
	}
	for _, *field = range past(ends) {
		if *field < ends[0] || *field > ends[1] {
			refusesBytes(t, "past its range", im, api.EFORM)
		}
	}
	*field = was
}

// P10.1: of no region Partial has but -1.
func TestPartialOfNoRegion(t *testing.T) {
	for order := range 9 {
		im := lays(t, config(order, 2), 0, nil, nil)
		tellsBoth(t, "no region", im)
		for class := range im.Partial {
			for _, im.Partial[class] = range []int{0, 1, -2, 65535} {
				refusesBytes(t, "a page that is not there", im, api.EFORM)
				refusesLoad(t, "a page that is not there", im, api.EBROKEN)
			}
			im.Partial[class] = -1
		}
	}
}

// P10.4: -1 is the greatest number of two bytes; of eight bytes any number goes.
func TestLeastAndGreatest(t *testing.T) {
	im := lays(t, example(), 1, nil, nil)
	b := tellsBoth(t, "a free region", im)
	for _, at := range []int{15 + 5, 15 + 7, 15 + 9, 58 + 5, 58 + 7, 58 + 9, 125, 139} {
		if !bytes.Equal(b[at:at+2], []byte{255, 255}) {
			t.Errorf("the bytes from %d on: %v", at, b[at:at+2])
		}
	}
	im.Heads = []uint64{math.MaxUint64, 1 << 63}
	im.Pairs = [][]uint64{{math.MaxUint64}}
	im.Pages[1].Bits = [4]uint64{math.MaxUint64, math.MaxUint64, math.MaxUint64, math.MaxUint64}
	tellsBoth(t, "any words", im)
}
