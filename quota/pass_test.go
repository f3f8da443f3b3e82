package quota_test

import (
	"slices"
	"testing"

	"croft/api"
)

// P14.7: a block goes to another owner as it stands: its address, its bytes, and nothing of the heap changes.
func TestPass(t *testing.T) {
	for size := uint64(16); size <= 16384; size *= 2 {
		row := numbers(size)
		b := newBank(t, config(2, 3), most, most, most)
		p, q := takes(t, b, 0, size), takes(t, b, 1, 16)
		held := row.bytes(int(size))
		wantsError(t, "Write", b.Write(0, p, held), api.OK)
		image := stateOf(b).heap
		wantsError(t, "Pass", b.Pass(0, p, 1), api.OK)
		wantsUsed(t, b, 0, 0, most)
		wantsUsed(t, b, 1, size+16, most)
		wantsOwned(t, b, 0)
		wantsFault(t, b, 0, p, 1)
		wantsBytes(t, b, 1, p, held)
		refusesFree(t, b, 0, p)
		refusesPass(t, b, 0, p, 2, api.EINVAL)
		wantsError(t, "Pass on", b.Pass(1, p, 2), api.OK)
		wantsOwned(t, b, 1, api.Block{P: q, Size: 16})
		wantsOwned(t, b, 2, api.Block{P: p, Size: size})
		wantsBytes(t, b, 2, p, held)
		if got := b.Heap().Image(); string(got.Mem) != string(image.Mem) || !slices.Equal(got.Pages, image.Pages) {
			t.Fatalf("size %d: the heap has changed", size)
		}
		frees(t, b, 2, p)
	}
}

// P14.7: to oneself, whatever the limit is; to no owner, by no owner; of another's block, of none.
func TestPassRefused(t *testing.T) {
	b := newBank(t, example(), most, most, most)
	p, q := takes(t, b, 0, 64), takes(t, b, 1, 64)
	closes(t, b, 2, 0)
	for _, limit := range []uint64{most, 64, 63, 0} {
		wantsError(t, "Limit", b.Limit(0, limit), api.OK)
		unchanged(t, "Pass to oneself", b, func() { wantsError(t, "to oneself", b.Pass(0, p, 0), api.OK) })
		for _, owner := range append(noOwners(), 2, 3) {
			refusesPass(t, b, 0, p, owner, api.EINVAL)
			refusesPass(t, b, owner, p, 1, api.EINVAL)
			refusesPass(t, b, owner, p, owner, api.EINVAL)
		}
		for _, at := range []uint64{0, 1, q, p + 1, p + 16, p + 64, 65535, 81920, most} {
			refusesPass(t, b, 0, at, 1, api.EINVAL)
			refusesPass(t, b, 0, at, 0, api.EINVAL)
			refusesPass(t, b, 0, at, 7, api.EINVAL)
		}
	}
	refusesPass(t, b, 1, p, 0, api.EINVAL) // EINVAL, not EQUOTA, though the limit is 0
	refusesPass(t, b, 1, q, 0, api.EQUOTA)
}

// P14.7: above the other's limit, and just at it; one's own limit is not asked for.
func TestPassAndLimits(t *testing.T) {
	for size := uint64(16); size <= 8192; size *= 2 {
		for _, has := range []uint64{0, 16, 2048} {
			b := newBank(t, config(1, 4), most, most)
			if has > 0 {
				takes(t, b, 1, has)
			}
			p := takes(t, b, 0, size)
			wantsError(t, "Limit", b.Limit(0, 0), api.OK)
			for _, limit := range []uint64{0, has, has + size/2, has + size - 1} {
				wantsError(t, "Limit", b.Limit(1, limit), api.OK)
				refusesPass(t, b, 0, p, 1, api.EQUOTA)
			}
			wantsError(t, "Limit", b.Limit(1, has+size), api.OK)
			wantsError(t, "Pass", b.Pass(0, p, 1), api.OK)
			wantsUsed(t, b, 1, has+size, has+size)
			refusesPass(t, b, 1, p, 0, api.EQUOTA)
			wantsError(t, "Limit", b.Limit(0, size), api.OK)
			wantsError(t, "back again", b.Pass(1, p, 0), api.OK)
			wantsUsed(t, b, 0, size, size)
			wantsUsed(t, b, 1, has, has+size)
		}
	}
}
