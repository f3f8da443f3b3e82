package malloc_test

import (
	"testing"

	"croft/api"
	"croft/malloc"
)

// example is the table's Config: R is 8192, the pages are 65536 and 69632, 73728 and 77824.
func example() api.Config { return api.Config{Base: 65536, Limit: 2, Order: 1} }

func (b *both) wantStats(want api.Stats) {
	b.t.Helper()
	if got := b.h.Stats(); got != want {
		b.t.Errorf("Stats: %+v, not %+v", got, want)
	}
	b.check()
}

func (b *both) wantTrim(want int) {
	b.t.Helper()
	if got := b.trim(); got != want {
		b.t.Errorf("Trim: %d, not %d", got, want)
	}
	b.check()
}

// The chapter's table of examples, row by row.
func TestExamples(t *testing.T) {
	for _, c := range []api.Config{{Base: 0, Limit: 2, Order: 1}, {Base: 4096, Limit: 2, Order: 1}, {Base: 65536, Limit: 65, Order: 1}, {Base: 65536, Limit: 2, Order: 9}} {
		if h, e := malloc.New(c); h != nil || e != api.EINVAL {
			t.Errorf("New(%+v): %v, %v", c, h, e)
		}
	}

	b := newBoth(t, example())
	b.is(b.malloc(0, false), answer{65536, api.OK})
	b.is(b.malloc(17, false), answer{69632, api.OK})
	b.is(b.malloc(16, false), answer{65552, api.OK})
	b.is(b.malloc(4097, false), answer{73728, api.OK})

	b.is(b.usable(65536), answer{16, api.OK})
	b.is(b.usable(69632), answer{32, api.OK})
	b.is(b.usable(65552), answer{16, api.OK})
	b.is(b.usable(73728), answer{8192, api.OK})

	b.is(b.malloc(2048, false), answer{0, api.ENOMEM})
	b.is(b.malloc(8193, false), answer{0, api.ETOOBIG})
	b.is(b.aligned(3, 9000, false), answer{0, api.EINVAL})
	b.is(b.aligned(64, 1, false), answer{0, api.ENOMEM})
	b.wantStats(api.Stats{H: 16384, L: 8256, Blocks: 4, FreePages: 0})

	b.is(b.free(65537), answer{0, api.EINVAL})
	b.is(b.free(0), answer{0, api.OK})
	b.is(b.free(65552), answer{0, api.OK})
	b.is(b.free(65552), answer{0, api.EINVAL})
	b.is(b.malloc(1, false), answer{65552, api.OK})

	b.is(b.realloc(73728, 4000, false), answer{73728, api.OK})
	b.is(b.malloc(3000, false), answer{77824, api.OK})
	b.wantStats(api.Stats{H: 16384, L: 8256, Blocks: 5, FreePages: 0})

	b.is(b.storeWord(65544, 5), answer{0, api.OK})
	b.is(b.load(65544), answer{5, api.OK})
	b.is(b.loadWord(65544), answer{5, api.OK})
	b.is(b.load(65568), answer{0, api.EFAULT})
	b.is(b.loadWord(65545), answer{0, api.EFAULT})

	b.is(b.free(73728), answer{0, api.OK})
	b.is(b.free(77824), answer{0, api.OK})
	b.wantTrim(1)
	b.wantStats(api.Stats{H: 8192, L: 64, Blocks: 3, FreePages: 0})

	b.is(b.malloc(4096, true), answer{0, api.ENOMEM})
	b.is(b.malloc(4096, false), answer{73728, api.OK})

	b.is(b.calloc(1<<32, 1<<32, false), answer{0, api.ETOOBIG})
	b.is(b.calloc(0, 5, false), answer{65568, api.OK})
	b.is(b.load(65568), answer{0, api.OK})
}

// DOC.md, the examples of the whole that ask a heap alone (1 to 6).
func TestExamplesOfTheWhole(t *testing.T) {
	b := newBoth(t, api.Config{Base: 65536, Limit: 1, Order: 1})
	b.is(b.malloc(16, false), answer{65536, api.OK})
	b.is(b.malloc(4096, false), answer{69632, api.OK})
	b.is(b.malloc(32, false), answer{0, api.ENOMEM})
	b.is(b.malloc(16, false), answer{65552, api.OK})

	b = newBoth(t, api.Config{Base: 65536, Limit: 2})
	b.is(b.malloc(4096, false), answer{65536, api.OK})
	b.is(b.malloc(4096, true), answer{0, api.ENOMEM})
	b.is(b.malloc(4096, false), answer{69632, api.OK})
	b.wantStats(api.Stats{H: 8192, L: 8192, Blocks: 2})

	b = newBoth(t, api.Config{Base: 65536, Limit: 1, Order: 1})
	b.is(b.malloc(8192, false), answer{65536, api.OK})
	b.is(b.realloc(65536, 4096, true), answer{65536, api.OK})
	b.is(b.malloc(4096, true), answer{69632, api.OK})
	b.is(b.realloc(65536, 4097, false), answer{0, api.ENOMEM})

	b = newBoth(t, api.Config{Base: 65536, Limit: 1})
	b.is(b.calloc(4, 4, false), answer{65536, api.OK})
	b.is(b.storeWord(65544, 258), answer{0, api.OK})
	if got := b.read(65536, 16); string(got) != "\x00\x00\x00\x00\x00\x00\x00\x00\x02\x01\x00\x00\x00\x00\x00\x00" {
		t.Errorf("Read: %v", got)
	}
	b.is(b.free(65544), answer{0, api.EINVAL})
	b.is(b.free(65536), answer{0, api.OK})
	b.is(b.free(65536), answer{0, api.EINVAL})
	b.wantTrim(1)
	b.wantStats(api.Stats{})

	b = newBoth(t, example())
	b.is(b.aligned(3, 1, false), answer{0, api.EINVAL})
	b.is(b.aligned(0, 99999, false), answer{0, api.EINVAL})
	b.is(b.aligned(8192, 1, false), answer{65536, api.OK})
	b.is(b.calloc(1<<32, 1<<32, false), answer{0, api.ETOOBIG})
	b.is(b.malloc(8193, false), answer{0, api.ETOOBIG})
}
