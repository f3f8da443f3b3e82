package report_test

import (
	"bytes"
	"slices"
	"testing"

	"croft/api"
	"croft/malloc"
	"croft/report"
	"croft/walk"
)

// numbers gives the same long row of numbers each time.
type numbers uint64

func (n *numbers) below(end int) int {
	*n = *n*6364136223846793005 + 1442695040888963407
	return int(uint64(*n) >> 33 % uint64(end))
}

// word gives one of 64 bits.
func (n *numbers) word() uint64 {
	return uint64(n.below(1<<31))<<33 ^ uint64(n.below(1<<31))<<16 ^ uint64(n.below(1<<31))
}

func shuffle[T any](list []T, row *numbers) {
	for i := range list {
		j := i + row.below(len(list)-i)
		list[i], list[j] = list[j], list[i]
	}
}

// shuffled is a copy of a list, in some order.
func shuffled[T any](list []T, row *numbers) []T {
	other := slices.Clone(list)
	shuffle(other, row)
	return other
}

// example is the chapter's: two pages in a region, at most two regions.
func example() api.Config { return api.Config{Base: 65536, Limit: 2, Order: 1} }

// config is one of an order, with as many regions as may be, up to most.
func config(order, most int) api.Config {
	return api.Config{Base: 1 << 32, Limit: min(most, 64, 1024>>order), Order: order}
}

// sizesOf tells all that a block can have, by doubling.
func sizesOf(c api.Config) []uint64 {
	list := []uint64{16}
	for range 8 + c.Order {
		list = append(list, 2*list[len(list)-1])
	}
	return list
}

// regionSize tells R: the last of them.
func regionSize(c api.Config) uint64 { return slices.Max(sizesOf(c)) }

func newHeap(t *testing.T, c api.Config) *malloc.Heap {
	t.Helper()
	h, e := malloc.New(c)
	if e != api.OK {
		t.Fatal(e)
	}
	return h
}

func opened(t *testing.T, im api.Image) *malloc.Heap {
	t.Helper()
	h, e := malloc.Open(im)
	if e != api.OK {
		t.Fatal(e)
	}
	return h
}

// anyCall does a call on a heap, without a look at what it answers.
func anyCall(h *malloc.Heap, row *numbers) {
	c, deny := h.Config(), row.below(4) == 0
	p, live := uint64(row.below(1<<20)), h.Live()
	if len(live) > 0 && row.below(8) > 0 {
		p = live[row.below(len(live))].P
	}
	r := uint64(8) << row.below(11+c.Order)
	size := r - uint64(row.below(2)*row.below(int(r)))
	switch row.below(12) {
	case 0:
		h.Trim()
	case 1, 2, 3, 4:
		h.Malloc(size, deny)
	case 5:
		h.Calloc(1+uint64(row.below(3)), size, deny)
	case 6:
		h.AlignedAlloc(1<<row.below(14), size, deny)
	case 7, 8:
		h.Realloc(p, size, deny)
	case 9:
		h.StoreWord(p, -p)
	default:
		h.Free(p)
	}
}

// copied is an image that shares nothing with im.
func copied(im api.Image) api.Image {
	im.Mem, im.Pages, im.Heads, im.Partial = slices.Clone(im.Mem), slices.Clone(im.Pages), slices.Clone(im.Heads), slices.Clone(im.Partial)
	pairs := make([][]uint64, len(im.Pairs))
	for k, words := range im.Pairs {
		pairs[k] = slices.Clone(words)
	}
	im.Pairs = pairs
	return im
}

func same(one, other api.Image) bool {
	return one.Config == other.Config && one.Regions == other.Regions &&
		bytes.Equal(one.Mem, other.Mem) && slices.Equal(one.Pages, other.Pages) &&
		slices.EqualFunc(one.Pairs, other.Pairs, slices.Equal[[]uint64]) &&
		slices.Equal(one.Heads, other.Heads) && slices.Equal(one.Partial, other.Partial)
}

// wantsSound asks that an image which a test made is sound.
func wantsSound(t *testing.T, im api.Image) {
	t.Helper()
	if rule, place := walk.Check(im); rule != 0 {
		t.Fatalf("the image is not sound: %d, %d", rule, place)
	}
}

func wantsSizes(t *testing.T, live []api.Block, want string) {
	t.Helper()
	if got := report.Sizes(live); got != want {
		t.Errorf("Sizes(%v): %q, not %q", live, got, want)
	}
}

func wantsPages(t *testing.T, im api.Image, want string) {
	t.Helper()
	if got := report.Pages(im); got != want {
		t.Errorf("Pages: %q, not %q", got, want)
	}
}

func wantsFree(t *testing.T, im api.Image, want ...int) {
	t.Helper()
	if got := report.Free(im); !slices.Equal(got, want) {
		t.Errorf("Free: %v, not %v", got, want)
	}
}

func wantsWaste(t *testing.T, im api.Image, r uint64, want int) {
	t.Helper()
	if got := report.Waste(im, r); got != want {
		t.Errorf("Waste of %d: %d, not %d", r, got, want)
	}
}

func wantsDiff(t *testing.T, old, now, came, went []api.Block) {
	t.Helper()
	c, w := report.Diff(old, now)
	if !slices.Equal(c, came) || !slices.Equal(w, went) {
		t.Errorf("Diff(%v, %v): %v and %v, not %v and %v", old, now, c, w, came, went)
	}
}

// wantsNothing asks for what is told of an image that is not sound.
func wantsNothing(t *testing.T, what string, im api.Image) {
	t.Helper()
	if got := report.Pages(im); got != "" {
		t.Errorf("%s: Pages: %q", what, got)
	}
	if got := report.Free(im); len(got) != 0 {
		t.Errorf("%s: Free: %v", what, got)
	}
	for _, r := range []uint64{0, 8, 16, 24, 2048, 4096, 8192, 1 << 20, 1 << 63} {
		if got := report.Waste(im, r); got != -1 {
			t.Errorf("%s: Waste of %d: %d", what, r, got)
		}
	}
}

// blocks tells some, by P and Size one behind the other.
func blocks(list ...uint64) []api.Block {
	var all []api.Block
	for i := 0; i < len(list); i += 2 {
		all = append(all, api.Block{P: list[i], Size: list[i+1]})
	}
	return all
}
