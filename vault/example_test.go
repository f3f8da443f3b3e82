package vault_test

import (
	"testing"

	"croft/api"
	"croft/vault"
)

// The table, line by line: the calls go on from one another.
func TestExample(t *testing.T) {
	v := newVault(t, example())
	refuses(t, v, 8193, false, api.ETOOBIG)
	refuses(t, v, 1, true, api.ENOMEM)
	refusesHandle(t, v, 1)
	refusesHandle(t, v, 0)
	wantsHandles(t, v)

	for want := 1; want <= 3; want++ {
		takes(t, v, 4096, false, want)
	}
	wantsAt(t, v, example(), map[int]uint64{1: 0, 2: 4096, 3: 8192})

	wantsError(t, "Write", v.Write(3, 0, []byte{5}), api.OK)
	wantsError(t, "Write", v.Write(3, 4096, []byte{1}), api.EFAULT)
	wantsError(t, "Write", v.Write(3, 4096, nil), api.OK)
	if got, e := v.Read(3, most, 2); len(got) != 0 || e != api.EFAULT {
		t.Fatalf("Read: %v, %v", got, e)
	}

	frees(t, v, 2)
	takes(t, v, 8192, true, 4)
	wantsAt(t, v, example(), map[int]uint64{1: 8192, 3: 12288, 4: 0})

	pins(t, v, 3, 77824)
	wantsBytes(t, v, 3, 0, []byte{5})
	pins(t, v, 1, 73728)
	wantsStats(t, v, api.Stats{H: 16384, L: 16384, Blocks: 3})

	frees(t, v, 4)
	wantsError(t, "Free", v.Free(3), api.ESTATE)
	unpins(t, v, 3)
	wantsError(t, "Unpin", v.Unpin(3), api.ESTATE)
	frees(t, v, 3)

	wantsCompact(t, v, 0)
	wantsRegions(t, v, 2)
	takes(t, v, 8192, true, 5)
	pins(t, v, 5, 65536)

	unpins(t, v, 5, 1)
	frees(t, v, 5)
	wantsCompact(t, v, 1)
	pins(t, v, 1, 65536)
}

// DOC.md's eighth example of the whole, and the last line of chapter 21's table.
func TestExamplesOfTheWhole(t *testing.T) {
	v := newVault(t, api.Config{Base: 65536, Limit: 1, Order: 1})
	takes(t, v, 16, false, 1)
	takes(t, v, 4096, false, 2)
	frees(t, v, 1)
	refuses(t, v, 8192, true, api.ENOMEM)
	frees(t, v, 2)
	takes(t, v, 8192, true, 3)
	wantsStats(t, v, api.Stats{H: 8192, L: 8192, Blocks: 1})

	v = newVault(t, api.Config{Base: 65536, Limit: 1, Order: 0})
	takes(t, v, 16, false, 1)
	refuses(t, v, 2048, false, api.ENOMEM)
	writes(t, v, 1, 3, []byte{10, 11})
	wantsBytes(t, v, 1, 3, []byte{10, 11})
	pins(t, v, 1, 65536)
	wantsStats(t, v, api.Stats{H: 4096, L: 16, Blocks: 1})
}

// P16.1: at the limits all is well; one past each is EINVAL, and no vault.
func TestNew(t *testing.T) {
	for _, c := range []api.Config{
		example(), {Base: 4096, Limit: 1, Order: 0}, {Base: 1 << 20, Limit: 4, Order: 8}, {Base: 1 << 16, Limit: 64, Order: 4},
		{Base: 1<<63 - 4096, Limit: 1, Order: 0}, {Base: 1<<63 - 1<<22, Limit: 4, Order: 8},
	} {
		v := newVault(t, c)
		wantsHandles(t, v)
		wantsStats(t, v, api.Stats{})
		if got := v.Image(); !same(got, newHeap(t, c).Image()) || got.Config != c {
			t.Errorf("%+v: the heap is no new one", c)
		}
		takes(t, v, 1, false, 1)
		wantsAt(t, v, c, map[int]uint64{1: 0})
	}
	for _, c := range []api.Config{
		{}, {Base: 0, Limit: 2, Order: 1}, {Base: 4096, Limit: 2, Order: 1}, {Base: 65537, Limit: 2, Order: 1},
		{Base: 65536, Limit: 0, Order: 1}, {Base: 65536, Limit: -1, Order: 1}, {Base: 65536, Limit: 65, Order: 0},
		{Base: 65536, Limit: 1, Order: -1}, {Base: 1 << 32, Limit: 1, Order: 9}, {Base: 1 << 32, Limit: 5, Order: 8}, {Base: 1 << 32, Limit: 33, Order: 5},
		{Base: 1 << 63, Limit: 1, Order: 0}, {Base: 1<<63 - 4096, Limit: 2, Order: 0}, {Base: most - 4095, Limit: 1, Order: 0},
		{Base: 65536, Limit: 1<<63 - 1, Order: 1<<63 - 1}, {Base: 65536, Limit: -1 << 63, Order: -1 << 63},
	} {
		if v, e := vault.New(c); v != nil || e != api.EINVAL {
			t.Errorf("New(%+v): %v, %v", c, v, e)
		}
	}
}
