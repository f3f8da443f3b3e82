package image_test

import (
	"bytes"
	"encoding/binary"
	"slices"
	"testing"

	"croft/api"
	"croft/image"
)

// parsesAsTold holds Parse against the model: the place where bytes are wrong, or the image of which they are the bytes.
func parsesAsTold(t *testing.T, what string, b []byte) int {
	t.Helper()
	want := wrongAt(b)
	if want >= 0 {
		refusesParse(t, what, b, want)
		return want
	}
	if im := parses(t, b); !bytes.Equal(flat(im), b) || im.Regions != int(b[14]) {
		t.Fatalf("%s: Parse: another image", what)
	}
	return want
}

// P10.5: bytes that end too early: everywhere in an image of two pages, so within each kind of part, and at each part's end.
func TestShortBytes(t *testing.T) {
	for _, c := range []api.Config{example(), config(0, 2), config(2, 1)} {
		row := numbers(5)
		b := flat(ranged(c, c.Limit, &row))
		for n := range b {
			refusesParse(t, "short", b[:n], n)
		}
		parses(t, b)
		for more := 1; more < 20; more++ {
			refusesParse(t, "long", append(slices.Clone(b), row.bytes(more)...), len(b))
		}
	}
}

// P10.5: the first byte behind the last part, whatever it is, and however many there are.
func TestLongBytes(t *testing.T) {
	for order := range 9 {
		row := numbers(order)
		c := config(order, 2)
		for regions := range c.Limit + 1 {
			b := flat(ranged(c, regions, &row))
			for _, more := range [][]byte{{0}, {255}, {67}, make([]byte, 43), make([]byte, 4096), b} {
				refusesParse(t, "long", slices.Concat(b, more), len(b))
			}
		}
	}
}

// P10.5: the first four bytes, each of them another one; of several that are wrong the first is told.
func TestSign(t *testing.T) {
	b := flat(lays(t, example(), 1, nil, nil))
	for at := range 4 {
		for v := range 256 {
			if wrong := with(b, at, byte(v)); byte(v) != b[at] {
				refusesParse(t, "another byte", wrong, at)
				refusesParse(t, "another byte, and what is behind it", with(wrong, at+1, 99, 99, 99), at)
				refusesParse(t, "another byte, and none behind it", wrong[:at+1], at)
			}
		}
	}
}

// P10.5: each Limit and Order that a byte can hold.
func TestLimitAndOrder(t *testing.T) {
	for limit := range 256 {
		for order := range 256 {
			b := []byte{67, 82, 70, 1, byte(limit), byte(order)}
			switch {
			case limit < 1 || limit > 64:
				refusesParse(t, "Limit", b, 4)
				refusesParse(t, "Limit alone", b[:5], 4)
			case order > 8 || limit<<order > 1024:
				refusesParse(t, "Order", b, 5)
				refusesParse(t, "Order, and more", append(b, 1, 2, 3), 5)
			default:
				refusesParse(t, "no Base", b, 6)
				refusesParse(t, "half a Base", append(b, 1, 2, 3), 9)
			}
		}
	}
}

// P10.5: Limit << Order just at MaxPages, and one past it.
func TestMostPages(t *testing.T) {
	for order := range 9 {
		limit := min(64, 1024>>order)
		im := lays(t, api.Config{Base: 1 << 40, Limit: limit, Order: order}, 0, nil, nil)
		b := flat(im)
		wantsSame(t, "as many as may be", parses(t, b), im)
		at := 5
		if limit == 64 {
			at = 4
		}
		refusesParse(t, "one more region", with(b, 4, byte(limit+1)), at)
		refusesParse(t, "a greater Order", with(flat(lays(t, api.Config{Base: 1 << 40, Limit: 1024 >> 4, Order: 4}, 0, nil, nil)), 5, byte(5+order)), 5)
	}
}

// P10.5: each Base that may not be; of one that lacks a byte only that is told.
func TestBase(t *testing.T) {
	for order := range 9 {
		limit := min(64, 1024>>order)
		good := flat(lays(t, api.Config{Base: 1 << 40, Limit: limit, Order: order}, 0, nil, nil))
		for _, base := range wrongBases(order, limit) {
			wrong := with(good, 6, binary.LittleEndian.AppendUint64(nil, base)...)
			refusesParse(t, "Base", wrong, 6)
			refusesParse(t, "Base alone", wrong[:14], 6)
			refusesParse(t, "a part of Base", wrong[:13], 13)
			refusesParse(t, "Base, and Regions", with(wrong, 14, 255), 6)
		}
		r := uint64(4096) << order
		for _, base := range []uint64{r, 3 * r, 1<<63 - uint64(limit)*r} {
			if im := parses(t, with(good, 6, binary.LittleEndian.AppendUint64(nil, base)...)); im.Config != (api.Config{Base: base, Limit: limit, Order: order}) {
				t.Errorf("%v", im.Config)
			}
		}
	}
}

// P10.5: each Regions that a byte can hold, with all that belongs to no region behind it.
func TestRegions(t *testing.T) {
	for order := range 9 {
		limit := min(10, 1024>>order)
		b := flat(lays(t, api.Config{Base: 1 << 40, Limit: limit, Order: order}, 0, nil, nil))
		for regions := range 256 {
			wrong := with(b, 14, byte(regions))
			if regions > limit {
				refusesParse(t, "Regions", wrong, 14)
				refusesParse(t, "Regions, and no more", wrong[:15], 14)
			} else {
				parsesAsTold(t, "fewer parts than there must be", wrong)
				refusesParse(t, "Regions, and no more", wrong[:15], 15)
			}
		}
	}
}

// raw tells a number as so many bytes, the lowest first.
func raw(v, size int) []byte { return binary.LittleEndian.AppendUint64(nil, uint64(v))[:size] }

// P10.5: each field of the first two pages and the last one, and each of Partial, at each end of its range, one past it, and at the ends of what its bytes can hold; the place is its first byte.
func TestPartsInRange(t *testing.T) {
	for _, c := range []api.Config{example(), config(0, 2), config(3, 1), config(7, 1)} {
		row := numbers(c.Order)
		im := ranged(c, c.Limit, &row)
		b := flat(im)
		at := 15
		for i, part := range behindRegions(c, c.Limit) {
			if part.ranged && (i < 2*11 || i >= 11*(len(im.Pages)-1)) {
				checkPart(t, b, at, part)
			}
			at += part.size
		}
		if at != len(b) {
			t.Fatal("other parts")
		}
	}
}

// checkPart turns one part of bytes that are right.
func checkPart(t *testing.T, b []byte, at int, part cut) {
	t.Helper()
	most := 1<<(8*part.size) - 1
	for _, v := range []int{part.least, part.least + 1, part.greatest - 1, part.greatest, -1, part.greatest + 1, part.least - 1, most - 1, most / 2, most/2 + 1, 128, 255, 256} {
		turned := with(b, at, raw(v, part.size)...)
		if v = v & most; v == most {
			v = -1
		}
		if part.least <= v && v <= part.greatest {
			if im := parses(t, turned); !bytes.Equal(flat(im), turned) {
				t.Fatalf("the part at %d is %d: another image", at, v)
			}
			continue
		}
		refusesParse(t, "past its range", turned, at)
		refusesParse(t, "past its range, and nothing behind it", turned[:at+part.size], at)
		refusesParse(t, "past its range, but not all there", turned[:at+part.size-1], at+part.size-1)
	}
}

// P10.5: of two parts that are wrong the first is told.
func TestFirstWrongPart(t *testing.T) {
	row := numbers(1)
	c := example()
	b := flat(ranged(c, 2, &row))
	var places []int
	at := 15
	for _, part := range behindRegions(c, 2) {
		if part.ranged {
			places = append(places, at)
		}
		at += part.size
	}
	for i, first := range places {
		for _, second := range places[i:] {
			wrong := with(with(b, second, 254), first, 254)
			if first != second && wrongAt(with(b, first, 254)) == first {
				refusesParse(t, "two", wrong, first)
				refusesParse(t, "two, and more bytes", append(wrong, 1), first)
			}
		}
	}
}

// P10.5: places in an image of two pages, written out: 15 and 58 are where they begin, 101 the pairs, 109 Heads, 125 Partial, 141 Mem.
func TestPlaces(t *testing.T) {
	b := flat(lays(t, example(), 1, nil, nil))
	if len(b) != 141+8192 {
		t.Fatal(len(b))
	}
	for _, first := range []int{15, 58} {
		refusesParse(t, "Kind", with(b, first, 5), first)
		refusesParse(t, "Order", with(b, first+1, 2), first+1)
		refusesParse(t, "Class", with(b, first+2, 8), first+2)
		refusesParse(t, "Live", with(b, first+3, 1, 1), first+3)
		refusesParse(t, "Live -1", with(b, first+3, 255, 255), first+3)
		refusesParse(t, "Next", with(b, first+5, 2, 0), first+5)
		refusesParse(t, "Prev", with(b, first+7, 254, 255), first+7)
		refusesParse(t, "First", with(b, first+9, 0, 1), first+9)
	}
	for class := range 8 {
		refusesParse(t, "Partial", with(b, 125+2*class, 2, 0), 125+2*class)
		parses(t, with(b, 125+2*class, 1, 0))
	}
	for _, at := range []int{15 + 11, 57, 58 + 11, 100, 101, 108, 109, 124, 141, 141 + 8191} {
		if im := parses(t, with(b, at, 254)); !bytes.Equal(flat(im), with(b, at, 254)) {
			t.Errorf("the byte %d: another image", at)
		}
	}
}

// P10.5, R1: bytes of images of every Order that were spoilt in some places, cut off, lengthened; each kind of part is met as the place.
func TestSpoiltBytes(t *testing.T) {
	met := map[string]int{}
	for seed := range 6000 {
		row := numbers(seed)
		c := config(min(row.below(9), row.below(9), row.below(9)), 1+row.below(3))
		im := ranged(c, row.below(min(c.Limit, max(1, 16>>c.Order))+1), &row)
		b := flat(im)
		head := len(b) - len(im.Mem)
		for range row.below(4) {
			b[row.below(head)] = []byte{0, 1, 2, 7, 8, 64, 127, 128, 254, 255}[row.below(10)]
		}
		switch row.below(8) {
		case 0:
			b = b[:row.below(len(b)+1)]
		case 1:
			b = b[:row.below(min(200, len(b)+1))]
		case 2:
			b = append(b, row.bytes(1+row.below(50))...)
		}
		switch at := parsesAsTold(t, "spoilt", b); {
		case at < 0:
			met["right"]++
		case at == len(b):
			met["short"]++
		case at < 15:
			met["the head"]++
		case at < 15+43*len(im.Pages):
			met["a page"]++
		case at >= head-16 && at < head:
			met["Partial"]++
		}
	}
	for _, kind := range []string{"right", "short", "the head", "a page", "Partial"} {
		if met[kind] < 20 {
			t.Errorf("%s was met %d times", kind, met[kind])
		}
	}
}

// R1: any bytes, with the first four right as often as not.
func TestAnyBytes(t *testing.T) {
	for seed := range 4000 {
		row := numbers(seed)
		b := row.bytes(row.below(300))
		if row.below(4) > 0 {
			copy(b, []byte{67, 82, 70, 1, 1 + byte(row.below(64)), byte(row.below(5)), 0, 0, 0, 0, 1, 0, 0, 0, byte(row.below(3))})
		}
		parsesAsTold(t, "any bytes", b)
	}
	for n := range 200 {
		refusesParse(t, "zeros", make([]byte, n), 0)
	}
	if im, at, e := image.Parse(nil); at != 0 || e != api.EFORM || !same(im, api.Image{}) {
		t.Errorf("nil: %d, %v", at, e)
	}
}
