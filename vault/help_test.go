package vault_test

import (
	"bytes"
	"slices"
	"testing"

	"croft/api"
	"croft/malloc"
	"croft/vault"
	"croft/walk"
)

// most is the greatest number that there is.
const most = 1<<64 - 1

// numbers gives the same long row of numbers each time.
type numbers uint64

func (n *numbers) below(end int) int {
	*n = *n*6364136223846793005 + 1442695040888963407
	return int(uint64(*n) >> 33 % uint64(end))
}

// bytes tells so many.
func (n *numbers) bytes(count int) []byte {
	list := make([]byte, count)
	for i := range list {
		list[i] = byte(n.below(256))
	}
	return list
}

// size tells one that a region has, most often a page: so that few blocks fill a vault, and those that go leave it in pieces.
func (n *numbers) size(c api.Config) uint64 {
	r := uint64(4096) << (n.below(1 + c.Order))
	if n.below(3) == 0 {
		r = 16 << n.below(8)
	}
	return r - uint64(n.below(2)*n.below(int(r/2)))
}

// oneOf tells one of a list.
func oneOf[T any](row *numbers, list ...T) T { return list[row.below(len(list))] }

// edges tells numbers at which something may change.
func edges() []uint64 {
	return []uint64{0, 1, 2, 15, 16, 17, 255, 256, 2047, 2048, 2049, 4095, 4096, 4097, 8191, 8192, 8193, 16384, 65536, 1 << 20, 1<<20 + 1, 1 << 32, 1<<63 - 1, 1 << 63, 1<<63 + 1, most - 4095, most - 1, most}
}

// noHandles tells some numbers that are no block's, however many there were.
func noHandles() []int { return []int{0, -1, -2, -64, 1 << 30, 1 << 32, 1<<63 - 1, -1 << 63} }

// example is the Config of the chapter's table: R is 8192.
func example() api.Config { return api.Config{Base: 65536, Limit: 2, Order: 1} }

// config is one of an order, with as many regions as may be, up to some.
func config(order, up int) api.Config {
	return api.Config{Base: 1 << 32, Limit: min(up, 64, 1024>>order), Order: order}
}

// regionBytes is R, by doubling.
func regionBytes(c api.Config) uint64 {
	r := uint64(4096)
	for range c.Order {
		r += r
	}
	return r
}

// sizeFor is the size for a request; 0, if it is above R.
func sizeFor(c api.Config, size uint64) uint64 {
	for r := uint64(16); r <= regionBytes(c); r += r {
		if r >= size {
			return r
		}
	}
	return 0
}

func newVault(t *testing.T, c api.Config) *vault.Vault {
	t.Helper()
	v, e := vault.New(c)
	if v == nil || e != api.OK {
		t.Fatalf("New(%+v): %v, %v", c, v, e)
	}
	return v
}

func newHeap(t *testing.T, c api.Config) *malloc.Heap {
	t.Helper()
	h, e := malloc.New(c)
	if e != api.OK {
		t.Fatalf("malloc.New(%+v): %v", c, e)
	}
	return h
}

func wantsError(t *testing.T, what any, got, want api.Errno) {
	t.Helper()
	if got != want {
		t.Fatalf("%v: %v, not %v", what, got, want)
	}
}

// takes asks for a block that must come under that handle.
func takes(t *testing.T, v *vault.Vault, size uint64, deny bool, want int) {
	t.Helper()
	if got, e := v.Malloc(size, deny); got != want || e != api.OK {
		t.Fatalf("Malloc(%d, %v): %d, %v; not %d", size, deny, got, e, want)
	}
}

// takesAll asks for blocks that must come, regions too, and tells their handles.
func takesAll(t *testing.T, v *vault.Vault, sizes ...uint64) []int {
	t.Helper()
	var list []int
	for _, size := range sizes {
		handle, e := v.Malloc(size, false)
		wantsError(t, "Malloc", e, api.OK)
		list = append(list, handle)
	}
	return list
}

// times is a list of one number, so many times.
func times(count int, size uint64) []uint64 { return slices.Repeat([]uint64{size}, count) }

func frees(t *testing.T, v *vault.Vault, handles ...int) {
	t.Helper()
	for _, handle := range handles {
		if e := v.Free(handle); e != api.OK {
			t.Fatalf("Free(%d): %v", handle, e)
		}
	}
}

func writes(t *testing.T, v *vault.Vault, handle int, at uint64, b []byte) {
	t.Helper()
	if e := v.Write(handle, at, b); e != api.OK {
		t.Fatalf("Write(%d, %d, %d bytes): %v", handle, at, len(b), e)
	}
}

// wantsBytes asks what lies from a place of a block on.
func wantsBytes(t *testing.T, v *vault.Vault, handle int, at uint64, want []byte) {
	t.Helper()
	if got, e := v.Read(handle, at, uint64(len(want))); e != api.OK || !bytes.Equal(got, want) {
		t.Fatalf("Read(%d, %d, %d): %v, and other bytes than were written", handle, at, len(want), e)
	}
}

// pins pins a block, which must lie at p.
func pins(t *testing.T, v *vault.Vault, handle int, p uint64) {
	t.Helper()
	if got, e := v.Pin(handle); got != p || e != api.OK {
		t.Fatalf("Pin(%d): %d, %v; not %d", handle, got, e, p)
	}
}

func unpins(t *testing.T, v *vault.Vault, handles ...int) {
	t.Helper()
	for _, handle := range handles {
		if e := v.Unpin(handle); e != api.OK {
			t.Fatalf("Unpin(%d): %v", handle, e)
		}
	}
}

// placeOf tells where a block lies: it is pinned and let go again.
func placeOf(t *testing.T, v *vault.Vault, handle int) uint64 {
	t.Helper()
	p, e := v.Pin(handle)
	wantsError(t, "Pin", e, api.OK)
	unpins(t, v, handle)
	return p
}

// wantsAt asks that blocks lie so many bytes behind Base.
func wantsAt(t *testing.T, v *vault.Vault, c api.Config, want map[int]uint64) {
	t.Helper()
	for handle, offset := range want {
		if got := placeOf(t, v, handle) - c.Base; got != offset {
			t.Fatalf("the block %d lies at Base + %d, not + %d", handle, got, offset)
		}
	}
	if got := len(v.Handles()); got != len(want) {
		t.Fatalf("%d blocks, not %d", got, len(want))
	}
}

func wantsHandles(t *testing.T, v *vault.Vault, want ...int) {
	t.Helper()
	if got := v.Handles(); !slices.Equal(got, want) {
		t.Fatalf("Handles: %v, not %v", got, want)
	}
}

func wantsStats(t *testing.T, v *vault.Vault, want api.Stats) {
	t.Helper()
	if got := v.Stats(); got != want {
		t.Fatalf("Stats: %+v, not %+v", got, want)
	}
}

// wantsRegions asks how many there are.
func wantsRegions(t *testing.T, v *vault.Vault, want int) {
	t.Helper()
	if got := v.Image().Regions; got != want {
		t.Fatalf("%d regions, not %d", got, want)
	}
}

func wantsCompact(t *testing.T, v *vault.Vault, want int) {
	t.Helper()
	if got := v.Compact(); got != want {
		t.Fatalf("Compact: %d, not %d", got, want)
	}
}

func wantsSound(t *testing.T, v *vault.Vault) {
	t.Helper()
	if rule, place := walk.Check(v.Image()); rule != 0 || place != 0 {
		t.Fatalf("the image breaks the rule %d at %d", rule, place)
	}
}

// unchanged asks that something changes nothing that can be seen: every byte, list and page of the heap stays, and each block where it is.
func unchanged(t *testing.T, what any, v *vault.Vault, do func()) {
	t.Helper()
	image, handles, places := v.Image(), v.Handles(), places(t, v)
	do()
	if !same(v.Image(), image) || !slices.Equal(v.Handles(), handles) || !slices.Equal(placesOf(t, v, handles), places) {
		t.Fatalf("%v has changed something", what)
	}
}

// places tells where the blocks lie, by their handles.
func places(t *testing.T, v *vault.Vault) []uint64 {
	t.Helper()
	return placesOf(t, v, v.Handles())
}

func placesOf(t *testing.T, v *vault.Vault, handles []int) []uint64 {
	t.Helper()
	var list []uint64
	for _, handle := range handles {
		list = append(list, placeOf(t, v, handle))
	}
	return list
}

// refuses asks that a Malloc is refused, and changes nothing.
func refuses(t *testing.T, v *vault.Vault, size uint64, deny bool, want api.Errno) {
	t.Helper()
	unchanged(t, "Malloc", v, func() {
		t.Helper()
		if got, e := v.Malloc(size, deny); got != 0 || e != want {
			t.Fatalf("Malloc(%d, %v): %d, %v; not %v", size, deny, got, e, want)
		}
	})
}

// refusesHandle asks that no call takes a handle for a block's, whatever else it is given.
func refusesHandle(t *testing.T, v *vault.Vault, handle int) {
	t.Helper()
	unchanged(t, "a handle that is none", v, func() {
		t.Helper()
		wantsError(t, "Free", v.Free(handle), api.EINVAL)
		wantsError(t, "Unpin", v.Unpin(handle), api.EINVAL)
		if got, e := v.Size(handle); got != 0 || e != api.EINVAL {
			t.Fatalf("Size(%d): %d, %v", handle, got, e)
		}
		if got, e := v.Pin(handle); got != 0 || e != api.EINVAL {
			t.Fatalf("Pin(%d): %d, %v", handle, got, e)
		}
		for _, at := range []uint64{0, 1, 1 << 40, most} {
			wantsError(t, "Write", v.Write(handle, at, nil), api.EINVAL)
			wantsError(t, "Write", v.Write(handle, at, []byte{1, 2}), api.EINVAL)
			for _, n := range []uint64{0, 1, most} {
				if got, e := v.Read(handle, at, n); len(got) != 0 || e != api.EINVAL {
					t.Fatalf("Read(%d, %d, %d): %d bytes, %v", handle, at, n, len(got), e)
				}
			}
		}
	})
}

// same tells whether two images are: nil and an empty list are one.
func same(one, other api.Image) bool {
	return one.Config == other.Config && one.Regions == other.Regions &&
		bytes.Equal(one.Mem, other.Mem) && slices.Equal(one.Pages, other.Pages) &&
		slices.EqualFunc(one.Pairs, other.Pairs, slices.Equal[[]uint64]) &&
		slices.Equal(one.Heads, other.Heads) && slices.Equal(one.Partial, other.Partial)
}
