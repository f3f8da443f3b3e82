package quota_test

import (
	"reflect"
	"testing"

	"croft/api"
	"croft/quota"
)

// R4: what Owners, Owned and Read tell is new memory each time.
func TestListsApart(t *testing.T) {
	b := newBank(t, example(), most, most)
	p := takesMany(t, b, 0, 16, 4)[0]
	wantsError(t, "Write", b.Write(0, p, []byte("abc")), api.OK)
	owned := func() []api.Block { list, _ := b.Owned(0); return list }
	read := func() []byte { held, _ := b.Read(0, p, 3); return held }
	owners, blocks, held := b.Owners(), owned(), read()
	wantsApart(t, "Owners", spanOf(owners), spanOf(b.Owners()))
	wantsApart(t, "Owned", spanOf(blocks), spanOf(owned()))
	wantsApart(t, "Read", spanOf(held), spanOf(read()))
	is := stateOf(b)
	clear(owners[:cap(owners)])
	clear(blocks[:cap(blocks)])
	clear(held[:cap(held)])
	if !reflect.DeepEqual(stateOf(b), is) || string(read()) != "abc" {
		t.Error("what is done to lists is seen")
	}
	wantsOwners(t, b, 0, 1)
	wantsUsed(t, b, 0, 64, most)
}

// R4: what Write is handed is not changed, spare room included, and not kept, whether it is refused or not.
func TestDataApart(t *testing.T) {
	b := newBank(t, example(), most, most)
	p := takes(t, b, 0, 16)
	for owner, want := range []api.Errno{api.OK, api.EFAULT} {
		piece := append(make([]byte, 0, 9), "abc"...)
		copy(piece[3:9], "spare!")
		wantsError(t, "Write", b.Write(owner, p, piece), want)
		if string(piece[:9]) != "abcspare!" {
			t.Error("Write has changed what it was handed")
		}
		got, _ := b.Read(0, p, 3)
		wantsApart(t, "Write", spanOf(piece), spanOf(got))
		clear(piece[:9])
		wantsBytes(t, b, 0, p, []byte("abc"))
	}
}

// asked is a call that was drawn, to be done on several banks.
type asked struct {
	kind, owner, to int
	p, size         uint64
	deny            bool
}

// draw tells one for a bank as it stands: most often of an address at which a block of the heap starts.
func draw(row *numbers, b *quota.Bank) asked {
	c := b.Heap().Config()
	a := asked{kind: row.below(12), owner: row.below(4), to: row.below(4), deny: row.below(3) == 0, size: row.size(c)}
	a.p = c.Base + uint64(row.below(1024))*16
	if live := b.Heap().Live(); len(live) > 0 && row.below(4) > 0 {
		a.p = oneOf(row, live...).P
	}
	return a
}

// does makes the call, and tells all that it answered.
func does(b *quota.Bank, a asked) []any {
	switch a.kind {
	case 0:
		n, e := b.Open(a.size)
		return []any{n, e}
	case 1:
		if a.size%4 == 0 {
			n, e := b.Close(a.owner)
			return []any{n, e}
		}
		return []any{b.Limit(a.owner, a.size*8)}
	case 2, 3, 4:
		q, e := b.Malloc(a.owner, a.size, a.deny)
		return []any{q, e}
	case 5:
		q, e := b.Realloc(a.owner, a.p, a.size, a.deny)
		return []any{q, e}
	case 6:
		return []any{b.Free(a.owner, a.p)}
	case 7:
		return []any{b.Pass(a.owner, a.p, a.to)}
	case 8:
		held, e := b.Read(a.owner, a.p, a.size%40)
		return []any{held, e}
	case 9:
		return []any{b.Write(a.owner, a.p, make([]byte, a.size%40))}
	case 10:
		used, limit, e := b.Used(a.owner)
		return []any{used, limit, e}
	}
	list, e := b.Owned(a.owner)
	return []any{list, e, b.Owners()}
}

// R5: the same is asked of two banks, with other things asked of a third between: they answer the same, and have nothing in common.
func TestSameAnswers(t *testing.T) {
	for seed := range 60 {
		row, strange := numbers(seed), numbers(seed+500)
		c := config(seed%5, 3)
		one, twin, other := newBank(t, c, most, most, 5000), newBank(t, c, most, most, 5000), newBank(t, c, most, most)
		for range 300 {
			a := draw(&row, one)
			got := does(one, a)
			does(other, draw(&strange, other))
			if want := does(twin, a); !reflect.DeepEqual(got, want) {
				t.Fatalf("%+v: %v, and %v", a, got, want)
			}
		}
		if !reflect.DeepEqual(stateOf(one), stateOf(twin)) {
			t.Fatal("two banks differ behind the same calls")
		}
	}
}

// R5: what one bank's owner has is not seen by another bank of the same Config.
func TestTwoBanks(t *testing.T) {
	one, other := newBank(t, example(), most), newBank(t, example(), most)
	p := takes(t, one, 0, 64)
	refusesFree(t, other, 0, p)
	refusesRealloc(t, other, 0, p, 64, false, api.EINVAL)
	wantsFault(t, other, 0, p, 1)
	wants(t, "its own", told(other.Malloc(0, 64, false)), answer{p, api.OK})
	wantsError(t, "Write", other.Write(0, p, []byte("there")), api.OK)
	wantsError(t, "Write", one.Write(0, p, []byte("here!")), api.OK)
	wantsBytes(t, other, 0, p, []byte("there"))
	closes(t, one, 0, 1)
	wantsOwners(t, other, 0)
	wantsUsed(t, other, 0, 64, most)
}

// past does something to the heap that only the bank may do.
func past(b *quota.Bank, a asked) {
	switch h := b.Heap(); a.kind % 4 {
	case 0:
		h.Free(a.p)
	case 1:
		h.Malloc(a.size, a.deny)
	case 2:
		h.Realloc(a.p, a.size, a.deny)
	default:
		h.Write(a.p, make([]byte, a.size%40))
	}
}

// R6: who frees owners' blocks past the bank, or asks the heap for others, is promised that each call ends and none panics, and that it answers the same each time.
func TestPastTheBank(t *testing.T) {
	for seed := range 100 {
		row := numbers(seed)
		c := config(seed%4, 2)
		one, twin := newBank(t, c, most, most, 9000), newBank(t, c, most, most, 9000)
		for range 300 {
			x := draw(&row, one)
			past(one, x)
			past(twin, x)
			a := draw(&row, one)
			if got, want := does(one, a), does(twin, a); !reflect.DeepEqual(got, want) {
				t.Fatalf("%+v: %v, and %v", a, got, want)
			}
		}
		for _, owner := range one.Owners() {
			sum := uint64(0)
			list, _ := one.Owned(owner)
			for _, x := range list {
				sum += x.Size
			}
			if used, _, _ := one.Used(owner); used != sum {
				t.Fatalf("seed %d: the owner %d uses %d bytes, and owns %d", seed, owner, used, sum)
			}
			closes(t, one, owner, len(list))
		}
	}
}
