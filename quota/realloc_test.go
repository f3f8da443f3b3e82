package quota_test

import (
	"bytes"
	"testing"

	"croft/api"
)

// P14.5: from each size to each, with a limit that is just enough, and one below it: in place and elsewhere, to less and to more; the bytes go along, the block is the owner's, and no other one's is touched.
func TestReallocEach(t *testing.T) {
	for size := uint64(16); size <= 65536; size *= 2 {
		for to := uint64(16); to <= 65536; to *= 2 {
			row := numbers(size + to)
			b := newBank(t, config(4, 3), most, most)
			held := row.bytes(int(size))
			p, q := takes(t, b, 0, size), takes(t, b, 1, 48)
			wantsError(t, "Write", b.Write(0, p, held), api.OK)
			wantsError(t, "Write", b.Write(1, q, held[:16]), api.OK)
			ask := to - uint64(row.below(int(to/2)))
			if to > size {
				wantsError(t, "Limit", b.Limit(0, to-1), api.OK)
				refusesRealloc(t, b, 0, p, ask, false, api.EQUOTA)
				wantsBytes(t, b, 0, p, held)
				wantsError(t, "Limit", b.Limit(0, to), api.OK) // used - r + r': the old block does not count beside the new one
			} else {
				wantsError(t, "Limit", b.Limit(0, 0), api.OK)
			}
			got, e := b.Realloc(0, p, ask, false)
			wantsError(t, "Realloc", e, api.OK)
			if inPlace := to == size || 4096 <= to && to < size; (got == p) != inPlace {
				t.Fatalf("from %d to %d: from %d to %d", size, to, p, got)
			}
			wantsBytes(t, b, 0, got, held[:min(size, to)])
			wantsBytes(t, b, 1, q, held[:16])
			wantsOwned(t, b, 0, api.Block{P: got, Size: to})
			wantsOwned(t, b, 1, api.Block{P: q, Size: 64})
			if got != p {
				refusesFree(t, b, 0, p)
			}
			frees(t, b, 0, got)
		}
	}
}

// P14.5: with p = 0 it is Malloc, with its errors.
func TestReallocOfNone(t *testing.T) {
	x := newBoth(t, example())
	x.open(8192 + 64)
	for _, size := range []uint64{0, 8193, 8192, 16, 17, most, 32, 1, 1, 1} {
		for _, deny := range []bool{true, false} {
			x.realloc(0, 0, size, deny)
			x.check()
		}
	}
	x.checkHeap()
	wantsUsed(t, x.b, 0, 8192+64, 8192+64)
}

// P14.5: of another owner's block, of an address within one's own, of one that was given back or moved: EINVAL, whatever the size is.
func TestReallocOfNoBlock(t *testing.T) {
	b := newBank(t, config(2, 2), most, most)
	mine, other, gone := takes(t, b, 0, 64), takes(t, b, 1, 64), takes(t, b, 0, 64)
	frees(t, b, 0, gone)
	old := takes(t, b, 0, 16)
	if _, e := b.Realloc(0, old, 4096, false); e != api.OK {
		t.Fatal(e)
	}
	for _, p := range []uint64{other, gone, old, mine + 1, mine + 16, mine + 63, other + 16, 1, 1<<32 - 1, 1<<32 + 32768, most} {
		for _, size := range []uint64{0, 64, 65, 16384, 16385, most} {
			for _, deny := range []bool{false, true} {
				refusesRealloc(t, b, 0, p, size, deny, api.EINVAL)
			}
		}
	}
}

// P14.5, T3, R3: one that finds no place: the old block stays, as it stands, denied or with all regions there.
func TestReallocWithoutPlace(t *testing.T) {
	b := newBank(t, example(), most, most)
	p := takes(t, b, 0, 4096)
	takes(t, b, 1, 4096)
	held := bytes.Repeat([]byte{9}, 4096)
	wantsError(t, "Write", b.Write(0, p, held), api.OK)
	for _, size := range []uint64{1, 2048, 4097, 8192} {
		refusesRealloc(t, b, 0, p, size, true, api.ENOMEM)
	}
	takes(t, b, 1, 8192)
	for _, size := range []uint64{1, 2048, 4097, 8192} {
		refusesRealloc(t, b, 0, p, size, false, api.ENOMEM)
	}
	wantsBytes(t, b, 0, p, held)
	wantsUsed(t, b, 0, 4096, most)
}
