package quota_test

import (
	"testing"

	"croft/api"
)

// P14.4: of each size: a limit that is just what is used and needed, one below it, one above it, none at all.
func TestLimitOfEachSize(t *testing.T) {
	for size := uint64(16); size <= 65536; size *= 2 {
		for _, used := range []uint64{0, 16, 4096, 65536 + 48} {
			b := newBank(t, config(4, 4), most)
			for rest := used; rest > 0; {
				n := min(rest, 65536)
				for n&(n-1) != 0 {
					n &= n - 1 // down to the highest power of 2 in it
				}
				takes(t, b, 0, n)
				rest -= n
			}
			wantsUsed(t, b, 0, used, most)
			for _, limit := range []uint64{0, used, used + size/2, used + size - 1} {
				wantsError(t, "Limit", b.Limit(0, limit), api.OK)
				refusesMalloc(t, b, 0, size, false, api.EQUOTA)
				refusesMalloc(t, b, 0, size/2+1, true, api.EQUOTA) // the size for the request counts, not what is asked for
			}
			wantsError(t, "Limit", b.Limit(0, used+size), api.OK)
			takes(t, b, 0, size/2+1)
			wantsUsed(t, b, 0, used+size, used+size)
			refusesMalloc(t, b, 0, 0, false, api.EQUOTA)
		}
	}
}

// P14.3, P14.4: with the limit 0 nothing is handed out, with the greatest all that there is.
func TestLeastAndGreatestLimit(t *testing.T) {
	b := newBank(t, example(), 0, most)
	for _, size := range []uint64{0, 1, 16, 17, 4096, 8192} {
		refusesMalloc(t, b, 0, size, false, api.EQUOTA)
		refusesRealloc(t, b, 0, 0, size, false, api.EQUOTA)
	}
	wantsUsed(t, b, 0, 0, 0)
	frees(t, b, 0, 0)
	takesMany(t, b, 1, 8192, 2)
	wantsUsed(t, b, 1, 16384, most)
	refusesMalloc(t, b, 1, 0, false, api.ENOMEM)
	refusesMalloc(t, b, 0, 0, false, api.EQUOTA)
	for limit := range uint64(16) {
		wantsError(t, "Limit", b.Limit(0, limit), api.OK)
		refusesMalloc(t, b, 0, 0, false, api.EQUOTA) // 0 bytes need 16
	}
}

// P14.4, R2: ETOOBIG comes ahead of EQUOTA, and EQUOTA ahead of ENOMEM, denied or not.
func TestOrderOfErrors(t *testing.T) {
	for _, deny := range []bool{false, true} {
		b := newBank(t, example(), 0, most)
		p := takes(t, b, 1, 16)
		wantsError(t, "Limit", b.Limit(0, 16), api.OK)
		wantsError(t, "Pass", b.Pass(1, p, 0), api.OK)
		takesMany(t, b, 1, 4096, 3)
		for _, size := range []uint64{8193, 16384, 1 << 32, 1 << 63, 1<<63 + 1, most} {
			refusesMalloc(t, b, 0, size, deny, api.ETOOBIG)
			refusesRealloc(t, b, 0, 0, size, deny, api.ETOOBIG)
			refusesRealloc(t, b, 0, p, size, deny, api.ETOOBIG)
			refusesRealloc(t, b, 0, p+1, size, deny, api.EINVAL)
		}
		refusesMalloc(t, b, 0, 8192, deny, api.EQUOTA)
		refusesRealloc(t, b, 0, p, 8192, deny, api.EQUOTA)
		refusesRealloc(t, b, 0, p+1, 8192, deny, api.EINVAL)
		refusesMalloc(t, b, 1, 8192, deny, api.ENOMEM)
		wantsError(t, "Limit", b.Limit(0, 8192+16), api.OK)
		refusesMalloc(t, b, 0, 8192, deny, api.ENOMEM)
		wantsError(t, "Limit", b.Limit(0, 8192), api.OK)
		refusesRealloc(t, b, 0, p, 8192, deny, api.ENOMEM) // the old block does not count twice
		refusesMalloc(t, b, 0, 8192, deny, api.EQUOTA)
	}
}

// P14.4: what is used and what is asked for are above 2^64 - 1 together: nothing wraps round.
func TestNothingWrapsRound(t *testing.T) {
	b := newBank(t, example(), most, 100)
	p, q := takes(t, b, 0, 8192), takes(t, b, 1, 64)
	for _, size := range []uint64{most, most - 15, most - 63, most - 8191, most - 8192, 1<<63 + 1, 1 << 63} {
		for owner, at := range []uint64{p, q} {
			refusesMalloc(t, b, owner, size, false, api.ETOOBIG)
			refusesRealloc(t, b, owner, at, size, false, api.ETOOBIG)
			if got, e := b.Read(owner, at, size); len(got) != 0 || e != api.EFAULT {
				t.Errorf("Read of %d bytes: %d, %v", size, len(got), e)
			}
		}
	}
	for _, limit := range []uint64{most, most - 1, 1 << 63} {
		wantsError(t, "Limit", b.Limit(0, limit), api.OK)
		r := takes(t, b, 0, 16)
		wantsUsed(t, b, 0, 8208, limit)
		frees(t, b, 0, r)
	}
}

// P14.3: a limit that falls below what is used: nothing is handed out that raises the used bytes, also where it would be little; all else goes on, until enough was given back.
func TestLimitBelowUsed(t *testing.T) {
	b := newBank(t, config(3, 2), most, most)
	big, small := takes(t, b, 0, 16384), takes(t, b, 0, 64)
	other, gift := takes(t, b, 1, 16), takes(t, b, 0, 32)
	wantsError(t, "Limit", b.Limit(0, 100), api.OK)
	wantsUsed(t, b, 0, 16480, 100)
	refusesMalloc(t, b, 0, 0, false, api.EQUOTA)
	refusesRealloc(t, b, 0, 0, 1, false, api.EQUOTA)
	refusesRealloc(t, b, 0, small, 65, false, api.EQUOTA)
	refusesRealloc(t, b, 0, big, 16385, false, api.EQUOTA)
	refusesPass(t, b, 1, other, 0, api.EQUOTA)

	wants(t, "the same size", told(b.Realloc(0, small, 33, true)), answer{small, api.OK})
	wants(t, "less, in place", told(b.Realloc(0, big, 8000, true)), answer{big, api.OK})
	wantsUsed(t, b, 0, 8288, 100)
	wantsError(t, "Pass to oneself", b.Pass(0, small, 0), api.OK)
	wantsError(t, "Write", b.Write(0, small, []byte("is")), api.OK)
	wantsBytes(t, b, 0, small, []byte("is"))
	elsewhere, e := b.Realloc(0, big, 20, true)
	wantsError(t, "less, elsewhere", e, api.OK)
	wantsUsed(t, b, 0, 128, 100)
	refusesMalloc(t, b, 0, 0, false, api.EQUOTA)
	wantsError(t, "Pass to another", b.Pass(0, gift, 1), api.OK)
	wantsUsed(t, b, 0, 96, 100)
	refusesMalloc(t, b, 0, 0, false, api.EQUOTA) // below the limit, but not by 16
	frees(t, b, 0, elsewhere)
	wantsUsed(t, b, 0, 64, 100)
	takes(t, b, 0, 17)
	refusesPass(t, b, 1, other, 0, api.EQUOTA)
	wantsError(t, "Limit", b.Limit(0, 112), api.OK)
	wantsError(t, "Pass", b.Pass(1, other, 0), api.OK)
	wantsUsed(t, b, 0, 112, 112)
}

// P14.3: Limit changes the limit alone, whatever is used, and of that owner alone.
func TestLimitChangesTheLimitAlone(t *testing.T) {
	b := newBank(t, example(), most, 50)
	p, q := takes(t, b, 0, 100), takes(t, b, 1, 20)
	image := stateOf(b).heap
	for _, limit := range edges() {
		wantsError(t, "Limit", b.Limit(0, limit), api.OK)
		wantsUsed(t, b, 0, 128, limit)
		wantsUsed(t, b, 1, 32, 50)
		wantsOwned(t, b, 0, api.Block{P: p, Size: 128})
		wantsOwned(t, b, 1, api.Block{P: q, Size: 32})
		if got := b.Heap().Image(); got.Regions != image.Regions || string(got.Mem) != string(image.Mem) {
			t.Errorf("Limit(0, %d) has changed the heap", limit)
		}
	}
}

// P14.3: used counts blocks by their sizes, as they come, change and go.
func TestUsed(t *testing.T) {
	b := newBank(t, config(4, 2), most, most)
	sum, list := uint64(0), []uint64{}
	for _, size := range []uint64{0, 1, 16, 17, 33, 2047, 2048, 2049, 4097, 30000} {
		r := uint64(16)
		for r < size {
			r += r
		}
		list = append(list, takes(t, b, 0, size))
		sum += r
		wantsUsed(t, b, 0, sum, most)
	}
	wants(t, "30000 to 5000", told(b.Realloc(0, list[9], 5000, true)), answer{list[9], api.OK})
	wantsUsed(t, b, 0, sum-32768+8192, most)
	moved, e := b.Realloc(0, list[0], 300, true)
	wantsError(t, "0 to 300", e, api.OK)
	wantsUsed(t, b, 0, sum-32768+8192-16+512, most)
	wantsError(t, "Pass", b.Pass(0, moved, 1), api.OK)
	wantsUsed(t, b, 0, sum-32768+8192-16, most)
	wantsUsed(t, b, 1, 512, most)
	frees(t, b, 0, list[1:]...)
	wantsUsed(t, b, 0, 0, most)
	frees(t, b, 1, moved)
	wantsUsed(t, b, 1, 0, most)
}
