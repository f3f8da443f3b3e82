package image_test

import (
	"bytes"
	"slices"
	"testing"

	"croft/api"
	"croft/image"
	"croft/malloc"
	"croft/walk"
)

// numbers gives the same long row of numbers each time.
type numbers uint64

func (n *numbers) below(end int) int {
	*n = *n*6364136223846793005 + 1442695040888963407
	return int(uint64(*n) >> 33 % uint64(end))
}

// word tells one of 64 bits.
func (n *numbers) word() uint64 {
	return uint64(n.below(1<<31))<<33 ^ uint64(n.below(1<<31))<<11 ^ uint64(n.below(1<<31))
}

// bytes tells so many.
func (n *numbers) bytes(count int) []byte {
	list := make([]byte, count)
	for i := range list {
		list[i] = byte(n.below(256))
	}
	return list
}

// config is one of an order, with as many regions as may be, up to most.
func config(order, most int) api.Config {
	return api.Config{Base: 1 << 32, Limit: min(most, 1024>>order), Order: order}
}

// regionPages tells the pages of a region, by doubling.
func regionPages(c api.Config) int {
	n := 1
	for range c.Order {
		n += n
	}
	return n
}

func same(one, other api.Image) bool {
	return one.Config == other.Config && one.Regions == other.Regions &&
		bytes.Equal(one.Mem, other.Mem) && slices.Equal(one.Pages, other.Pages) &&
		slices.EqualFunc(one.Pairs, other.Pairs, slices.Equal[[]uint64]) &&
		slices.Equal(one.Heads, other.Heads) && slices.Equal(one.Partial, other.Partial)
}

// wantsSame asks that an image is another one, and tells the first thing that is not so.
func wantsSame(t *testing.T, what string, got, want api.Image) {
	t.Helper()
	if same(got, want) {
		return
	}
	for number := range min(len(got.Pages), len(want.Pages)) {
		if got.Pages[number] != want.Pages[number] {
			t.Fatalf("%s: the page %d: %v, not %v", what, number, got.Pages[number], want.Pages[number])
		}
	}
	for i := range min(len(got.Mem), len(want.Mem)) {
		if got.Mem[i] != want.Mem[i] {
			t.Fatalf("%s: the byte %d: %d, not %d", what, i, got.Mem[i], want.Mem[i])
		}
	}
	got.Mem, want.Mem, got.Pages, want.Pages = nil, nil, nil, nil
	t.Fatalf("%s: %v, not %v (or lists of other lengths)", what, got, want)
}

// copied is an image that shares nothing with im.
func copied(im api.Image) api.Image {
	im.Mem, im.Pages, im.Heads, im.Partial = slices.Clone(im.Mem), slices.Clone(im.Pages), slices.Clone(im.Heads), slices.Clone(im.Partial)
	pairs := make([][]uint64, len(im.Pairs))
	for k, words := range im.Pairs {
		pairs[k] = slices.Clone(words)
	}
	im.Pairs = pairs
	return im
}

// roomy tells an image like im, each list of it in one with spare room behind, and a function that says whether all of these are as they were made.
func roomy(im api.Image) (api.Image, func() bool) {
	mem := append(slices.Clone(im.Mem), 1, 2, 3, 4, 5, 6, 7, 8)
	pages := append(slices.Clone(im.Pages), api.Page{Kind: 77}, api.Page{Kind: 78})
	pairs := append(slices.Clone(im.Pairs), []uint64{70}, []uint64{71})
	heads := append(slices.Clone(im.Heads), 72, 73)
	partial := append(slices.Clone(im.Partial), 74, 75)
	for k := range im.Pairs {
		pairs[k] = append(slices.Clone(im.Pairs[k]), 76, 77)[:len(im.Pairs[k])]
	}
	whole := api.Image{Mem: mem, Pages: pages, Heads: heads, Partial: partial}
	for _, words := range pairs {
		whole.Pairs = append(whole.Pairs, words[:cap(words)])
	}
	ahead := copied(whole)
	room := im
	room.Mem, room.Pages, room.Pairs = mem[:len(im.Mem)], pages[:len(im.Pages)], pairs[:len(im.Pairs)]
	room.Heads, room.Partial = heads[:len(im.Heads)], partial[:len(im.Partial)]
	return room, func() bool {
		for k, words := range pairs {
			if &words[:1][0] != &whole.Pairs[k][0] {
				return false
			}
		}
		return same(whole, ahead)
	}
}

// overwrite writes over all of an image, spare room too.
func overwrite(im api.Image) {
	mem, pages, heads, partial := im.Mem[:cap(im.Mem)], im.Pages[:cap(im.Pages)], im.Heads[:cap(im.Heads)], im.Partial[:cap(im.Partial)]
	for i := range mem {
		mem[i] = 0xdd
	}
	for i := range pages {
		pages[i] = api.Page{Kind: 4, Order: 3, Class: 5, Live: 77, Next: 1, Prev: 2, First: 6, Bits: [4]uint64{1, 2, 3, 4}}
	}
	for i := range heads {
		heads[i] = 0xdddd
	}
	for i := range partial {
		partial[i] = 55
	}
	for _, words := range im.Pairs {
		words = words[:cap(words)]
		for i := range words {
			words[i] = 0xdddddddd
		}
	}
	clear(im.Pairs[:cap(im.Pairs)])
}

func newHeap(t *testing.T, c api.Config) *malloc.Heap {
	t.Helper()
	h, e := malloc.New(c)
	if e != api.OK {
		t.Fatal(e)
	}
	return h
}

// loads asks that Load makes a heap, and changes nothing of what it is handed.
func loads(t *testing.T, im api.Image) *malloc.Heap {
	t.Helper()
	room, stays := roomy(im)
	h, e := image.Load(room)
	if h == nil || e != api.OK {
		t.Fatalf("Load: %v, %v", h, e)
	}
	if !stays() {
		t.Fatal("Load has changed what it was handed")
	}
	return h
}

// refusesLoad asks that it makes none.
func refusesLoad(t *testing.T, what string, im api.Image, want api.Errno) {
	t.Helper()
	room, stays := roomy(im)
	if h, e := image.Load(room); h != nil || e != want {
		t.Fatalf("%s: Load: %v, %v; not %v", what, h, e, want)
	}
	if !stays() {
		t.Fatalf("%s: Load has changed what it was handed", what)
	}
}

// lays asks Lay for an image, and that it changes nothing of what it is handed.
func lays(t *testing.T, c api.Config, regions int, blocks []api.Block, contents [][]byte) api.Image {
	t.Helper()
	im, e := layRoomy(t, c, regions, blocks, contents)
	if e != api.OK {
		t.Fatalf("Lay(%v, %d, %v): %v", c, regions, blocks, e)
	}
	return im
}

// refusesLay asks that it tells EINVAL and the zero image.
func refusesLay(t *testing.T, what string, c api.Config, regions int, blocks []api.Block, contents [][]byte) {
	t.Helper()
	if im, e := layRoomy(t, c, regions, blocks, contents); e != api.EINVAL || !same(im, api.Image{}) {
		t.Fatalf("%s: Lay: %v, with %d regions", what, e, im.Regions)
	}
}

// layRoomy asks Lay with lists that have spare room, and holds what they are behind the call against what they were.
func layRoomy(t *testing.T, c api.Config, regions int, blocks []api.Block, contents [][]byte) (api.Image, api.Errno) {
	t.Helper()
	list := append(slices.Clone(blocks), api.Block{P: 1, Size: 2}, api.Block{P: 3, Size: 4})
	held := make([][]byte, len(contents), len(contents)+2)
	var wholes [][]byte
	for i, content := range contents {
		whole := append(slices.Clone(content), 0xa1, 0xa2, 0xa3)
		held[i] = whole[:len(content)]
		wholes = append(wholes, whole)
	}
	ahead := slices.Clone(held)
	im, e := image.Lay(c, regions, list[:len(blocks)], held)
	if !slices.Equal(list, append(slices.Clone(blocks), api.Block{P: 1, Size: 2}, api.Block{P: 3, Size: 4})) {
		t.Fatal("Lay has changed the blocks")
	}
	for i, whole := range wholes {
		if len(held[i]) != len(ahead[i]) || &whole[0] != &held[i][:1][0] || !bytes.Equal(whole, append(slices.Clone(contents[i]), 0xa1, 0xa2, 0xa3)) {
			t.Fatal("Lay has changed the contents")
		}
	}
	for _, spare := range held[len(held):cap(held)] {
		if spare != nil {
			t.Fatal("Lay has written behind the contents")
		}
	}
	return im, e
}

// told asks Bytes for an image's bytes, and that it changes nothing of it.
func told(t *testing.T, im api.Image) []byte {
	t.Helper()
	room, stays := roomy(im)
	b, e := image.Bytes(room)
	if e != api.OK {
		t.Fatalf("Bytes: %v", e)
	}
	if !stays() {
		t.Fatal("Bytes has changed what it was handed")
	}
	return b
}

// refusesBytes asks that it tells an error and no bytes.
func refusesBytes(t *testing.T, what string, im api.Image, want api.Errno) {
	t.Helper()
	room, stays := roomy(im)
	if b, e := image.Bytes(room); len(b) != 0 || e != want {
		t.Fatalf("%s: Bytes: %d bytes, %v; not %v", what, len(b), e, want)
	}
	if !stays() {
		t.Fatalf("%s: Bytes has changed what it was handed", what)
	}
}

// parses asks Parse for an image, and that it changes nothing of the bytes.
func parses(t *testing.T, b []byte) api.Image {
	t.Helper()
	im, at, e := parseRoomy(t, b)
	if at != 0 || e != api.OK {
		t.Fatalf("Parse: %d, %v", at, e)
	}
	return im
}

// refusesParse asks that it tells EFORM, that place, and the zero image.
func refusesParse(t *testing.T, what string, b []byte, place int) {
	t.Helper()
	if im, at, e := parseRoomy(t, b); at != place || e != api.EFORM || !same(im, api.Image{}) {
		t.Fatalf("%s: Parse: %d, %v; not the place %d", what, at, e, place)
	}
}

func parseRoomy(t *testing.T, b []byte) (api.Image, int, api.Errno) {
	t.Helper()
	whole := append(slices.Clone(b), 1, 2, 3, 4, 5, 6, 7, 8)
	ahead := slices.Clone(whole)
	im, at, e := image.Parse(whole[:len(b)])
	if !bytes.Equal(whole, ahead) {
		t.Fatal("Parse has changed the bytes")
	}
	return im, at, e
}

// wantsSound asks that an image is sound, and that these are its live blocks.
func wantsSound(t *testing.T, im api.Image, blocks []api.Block) {
	t.Helper()
	if rule, place := walk.Check(im); rule != 0 || place != 0 {
		t.Fatalf("Check: %d, %d", rule, place)
	}
	if got := walk.Blocks(im); !slices.Equal(got, blocks) {
		t.Fatalf("Blocks: %v, not %v", got, blocks)
	}
}
