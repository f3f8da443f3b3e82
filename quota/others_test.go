package quota_test

import (
	"slices"
	"testing"

	"croft/api"
	"croft/quota"
)

// pair is one owner, number 0, in a bank where it is alone and in one with others: its blocks lie elsewhere there, but what it is refused must be the same.
type pair struct {
	t            *testing.T
	alone, among *quota.Bank
	here, there  []uint64 // its blocks in the one and in the other, one by one
}

func newPair(t *testing.T) *pair {
	c := config(4, 16)
	return &pair{t: t, alone: newBank(t, c, most), among: newBank(t, c, most, most, most, most)}
}

// noise is a call of one of the others: they ask, pass to one another, free, go and come again.
func (x *pair) noise(row *numbers) {
	owner := 1 + row.below(3)
	list, _ := x.among.Owned(owner)
	if len(list) == 0 || row.below(2) == 0 {
		x.among.Malloc(owner, uint64(row.below(5000)), false)
		return
	}
	p := oneOf(row, list...).P
	switch row.below(5) {
	case 0:
		x.among.Pass(owner, p, 1+row.below(3))
	case 1:
		x.among.Realloc(owner, p, uint64(row.below(5000)), false)
	case 2:
		x.among.Limit(owner, oneOf[uint64](row, 0, 1000, most))
	case 3:
		if row.below(8) == 0 {
			closes(x.t, x.among, owner, len(list))
			opens(x.t, x.among, most, owner)
		}
	default:
		frees(x.t, x.among, owner, p)
	}
}

func (x *pair) malloc(size uint64) {
	x.t.Helper()
	p, e := x.alone.Malloc(0, size, false)
	q, f := x.among.Malloc(0, size, false)
	wantsError(x.t, "Malloc", f, e)
	if e == api.OK {
		x.here, x.there = append(x.here, p), append(x.there, q)
	}
}

func (x *pair) realloc(i int, size uint64) {
	x.t.Helper()
	p, e := x.alone.Realloc(0, x.here[i], size, false)
	q, f := x.among.Realloc(0, x.there[i], size, false)
	wantsError(x.t, "Realloc", f, e)
	if e == api.OK {
		x.here[i], x.there[i] = p, q
	}
}

// bytes asks for n bytes from the beginning of a block on.
func (x *pair) bytes(i int, n uint64) {
	x.t.Helper()
	_, e := x.alone.Read(0, x.here[i], n)
	_, f := x.among.Read(0, x.there[i], n)
	wantsError(x.t, "Read", f, e)
	wantsError(x.t, "Write", x.among.Write(0, x.there[i], make([]byte, n)), x.alone.Write(0, x.here[i], make([]byte, n)))
}

// free gives a block back, and asks for it once more.
func (x *pair) free(i int) {
	x.t.Helper()
	for range 2 {
		wantsError(x.t, "Free", x.among.Free(0, x.there[i]), x.alone.Free(0, x.here[i]))
	}
	x.here, x.there = slices.Delete(x.here, i, i+1), slices.Delete(x.there, i, i+1)
}

func (x *pair) limit(limit uint64) {
	x.t.Helper()
	wantsError(x.t, "Limit", x.among.Limit(0, limit), x.alone.Limit(0, limit))
}

func (x *pair) call(row *numbers) {
	x.t.Helper()
	i, size := row.below(len(x.here)+1), uint64(row.below(600))
	switch kind := row.below(10); {
	case kind == 0:
		x.limit(uint64(row.below(4000)))
	case kind < 4 || i == len(x.here):
		x.malloc(size)
	case kind < 6:
		x.realloc(i, size)
	case kind < 8:
		x.bytes(i, size)
	default:
		x.free(i)
	}
	used, limit, _ := x.alone.Used(0)
	wantsUsed(x.t, x.among, 0, used, limit)
}

// P14.9: what an owner is refused, and what it has used, is the same whatever the others do, as long as the heap has room.
func TestOthersAreNotFelt(t *testing.T) {
	for seed := range 60 {
		row, others := numbers(seed), numbers(seed+1000)
		x := newPair(t)
		for range 250 {
			x.noise(&others)
			x.call(&row)
		}
	}
}

// P14.9: what others take is felt by ENOMEM alone: the limit has room still, and where it has none EQUOTA comes, full or not.
func TestOthersFillTheHeap(t *testing.T) {
	b := newBank(t, example(), 64, most)
	p := takes(t, b, 0, 32)
	takesMany(t, b, 1, 4096, 3)
	refusesMalloc(t, b, 0, 16, false, api.ENOMEM)
	refusesRealloc(t, b, 0, p, 64, false, api.ENOMEM)
	refusesMalloc(t, b, 0, 64, false, api.EQUOTA)
	refusesRealloc(t, b, 0, p, 65, false, api.EQUOTA)
	wants(t, "its own page has cells", told(b.Malloc(0, 32, true)), answer{p + 32, api.OK})
	closes(t, b, 1, 3)
	refusesMalloc(t, b, 0, 16, false, api.EQUOTA)
	wantsUsed(t, b, 0, 64, 64)
}
