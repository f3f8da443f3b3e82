package image_test

import (
	"bytes"
	"slices"
	"testing"

	"croft/api"
	"croft/image"
)

// example is the chapter's: two pages in a region, at most two regions.
func example() api.Config { return api.Config{Base: 65536, Limit: 2, Order: 1} }

func noPartial() []int { return []int{-1, -1, -1, -1, -1, -1, -1, -1} }

func page(kind, order int) api.Page {
	return api.Page{Kind: kind, Order: order, Next: -1, Prev: -1, First: -1}
}

// wordsOf tells Mem with some words set, the lowest byte first, and zeros everywhere else.
func wordsOf(length int, words map[int]uint64) []byte {
	mem := make([]byte, length)
	for at, word := range words {
		for i := range 8 {
			mem[at+i] = byte(word >> (8 * i))
		}
	}
	return mem
}

// The chapter's table, its first three rows.
func TestExamplesOfBytes(t *testing.T) {
	im := image.Save(newHeap(t, example()))
	wantsSame(t, "Save", im, api.Image{Config: example(), Pairs: [][]uint64{nil}, Heads: []uint64{0, 0}, Partial: noPartial()})

	want := slices.Concat([]byte{67, 82, 70, 1, 2, 1, 0, 0, 1, 0, 0, 0, 0, 0, 0}, make([]byte, 16), bytes.Repeat([]byte{255}, 16))
	got := told(t, im)
	if !bytes.Equal(got, want) {
		t.Fatalf("Bytes: %v", got)
	}

	wantsSame(t, "Parse", parses(t, want), im)
	refusesParse(t, "the first 46", want[:46], 46)
	refusesParse(t, "one more", append(slices.Clone(want), 0), 47)
	refusesParse(t, "the byte 4 is 0", with(want, 4, 0), 4)
	refusesParse(t, "the byte 6 is 1", with(want, 6, 1), 6)
	refusesParse(t, "the byte 14 is 3", with(want, 14, 3), 14)
}

// with is a copy of bytes with others from a place on.
func with(b []byte, at int, others ...byte) []byte {
	b = slices.Clone(b)
	copy(b[at:], others)
	return b
}

// The chapter's table, its rows of Lay.
func TestExamplesOfLay(t *testing.T) {
	c := example()
	wantsSame(t, "no blocks", lays(t, c, 1, nil, nil), api.Image{
		Config: c, Regions: 1, Mem: make([]byte, 8192),
		Pages: []api.Page{page(api.PageFree, 1), page(api.PageFreeRest, 1)},
		Pairs: [][]uint64{{0}}, Heads: []uint64{0, 65536}, Partial: noPartial(),
	})

	words := map[int]uint64{32: 7}
	for cell := range 255 {
		if cell != 2 {
			words[16*cell] = 65536 + 16*uint64(cell+1)
		}
	}
	words[16] = 65584
	slab := api.Page{Kind: api.PageSlab, Live: 1, Next: -1, Prev: -1, First: 0, Bits: [4]uint64{4}}
	wantsSame(t, "a block of 16", lays(t, c, 1, []api.Block{{P: 65568, Size: 16}}, [][]byte{{7}}), api.Image{
		Config: c, Regions: 1, Mem: wordsOf(8192, words),
		Pages: []api.Page{slab, page(api.PageFree, 0)},
		Pairs: [][]uint64{{1}}, Heads: []uint64{69632, 0}, Partial: []int{0, -1, -1, -1, -1, -1, -1, -1},
	})

	if im := lays(t, c, 1, []api.Block{{P: 65536, Size: 8192}}, nil); !slices.Equal(im.Heads, []uint64{0, 0}) {
		t.Error(im.Heads)
	}
	if im := lays(t, c, 2, []api.Block{{P: 73728, Size: 4096}}, nil); !slices.Equal(im.Heads, []uint64{77824, 65536}) {
		t.Error(im.Heads)
	}
}

// The chapter's table, its row of what Lay refuses.
func TestExamplesOfNoLay(t *testing.T) {
	c, sixteen := example(), api.Block{P: 65536, Size: 16}
	refusesLay(t, "three regions", c, 3, nil, nil)
	refusesLay(t, "24 bytes", c, 1, []api.Block{{P: 65536, Size: 24}}, nil)
	refusesLay(t, "one twice", c, 1, []api.Block{sixteen, sixteen}, nil)
	refusesLay(t, "two sizes on a page", c, 1, []api.Block{sixteen, {P: 65568, Size: 32}}, nil)
	refusesLay(t, "17 bytes in 16", c, 1, []api.Block{sixteen}, [][]byte{make([]byte, 17)})
	refusesLay(t, "contents of no block", c, 0, nil, [][]byte{nil})
}

// The chapter's table, its last row.
func TestExamplesOfLoad(t *testing.T) {
	im := lays(t, example(), 1, nil, nil)
	loads(t, im)
	wrong := copied(im)
	wrong.Heads = []uint64{0, 0}
	refusesLoad(t, "Heads 0 0", wrong, api.EBROKEN)
	wrong = copied(im)
	wrong.Mem = wrong.Mem[:8191]
	refusesLoad(t, "Mem a byte short", wrong, api.EFORM)
	wrong = copied(im)
	wrong.Config.Base = 1
	refusesLoad(t, "Base 1", wrong, api.EINVAL)
}
