package quota_test

import (
	"testing"

	"croft/api"
)

// P14.8: no bytes may be read and written anywhere, and nothing changes.
func TestNoBytes(t *testing.T) {
	b := newBank(t, example(), most, 0)
	p := takes(t, b, 0, 64)
	for _, at := range append(edges(), p, p+63, p+64, p-1) {
		for owner := range 2 {
			unchanged(t, at, b, func() {
				if got, e := b.Read(owner, at, 0); len(got) != 0 || e != api.OK {
					t.Errorf("Read of no bytes at %d: %v, %v", at, got, e)
				}
				wantsError(t, at, b.Write(owner, at, nil), api.OK)
				wantsError(t, at, b.Write(owner, at, []byte{}), api.OK)
			})
		}
	}
}

// P14.8: up to a block's end, and not a byte further: across two blocks of one owner that touch, into another owner's, into free cells.
func TestBytesAtTheEnd(t *testing.T) {
	for size := uint64(16); size <= 8192; size *= 2 {
		row := numbers(size)
		b := newBank(t, config(3, 1), most, most)
		list := []uint64{takes(t, b, 0, size), takes(t, b, 0, size), takes(t, b, 1, size)}
		for i, p := range list[1:] {
			if p != list[i]+size {
				t.Fatalf("blocks of %d bytes don't touch: %v", size, list)
			}
		}
		held := row.bytes(int(2 * size))
		for _, n := range []uint64{1, 2, 15, 16, size / 2, size} {
			wantsError(t, "Write", b.Write(0, list[0]+size-n, held[size-n:size]), api.OK)
			wantsBytes(t, b, 0, list[0]+size-n, held[size-n:size])
			wantsFault(t, b, 0, list[0]+size-n, int(n)+1)
			wantsFault(t, b, 0, list[0]+size-n, int(n+size))
			wantsFault(t, b, 0, list[1]+size-n, int(n)+1)
			wantsFault(t, b, 0, list[2]-1, int(n)+1)
			wantsFault(t, b, 1, list[2]-1, int(n)+1)
			wantsFault(t, b, 1, list[2]+size-n, int(n)+1)
			wantsFault(t, b, 0, list[2]+size-n, int(n))
			wantsFault(t, b, 1, list[0]+size-n, int(n))
		}
		wantsError(t, "Write", b.Write(0, list[1], held[size:]), api.OK)
		wantsBytes(t, b, 0, list[0], held[:size])
		wantsBytes(t, b, 0, list[1], held[size:])
		wantsFault(t, b, 0, list[2]+size, 1)
	}
}

// P14.8: each byte of a block of each size may be read and written by its owner, and by nobody else.
func TestEachByte(t *testing.T) {
	for size := uint64(16); size <= 1<<20; size *= 2 {
		b := newBank(t, config(8, 2), most, most)
		takes(t, b, 1, 16)
		p := takes(t, b, 0, size)
		for at := p; at < p+size; at += 1 + size/300 {
			wantsError(t, at, b.Write(0, at, []byte{byte(at * 7)}), api.OK)
			wantsBytes(t, b, 0, at, []byte{byte(at * 7)})
			if _, e := b.Read(1, at, 1); e != api.EFAULT {
				t.Fatalf("the other reads at %d: %v", at, e)
			}
			wantsError(t, at, b.Write(1, at, []byte{1}), api.EFAULT)
			wantsBytes(t, b, 0, at, []byte{byte(at * 7)})
		}
	}
}

// P14.8: Owned of an owner without blocks: none; of one with blocks all of them, rising, in whatever order they came.
func TestOwned(t *testing.T) {
	b := newBank(t, config(8, 4), most, most)
	wantsOwned(t, b, 0)
	for range 300 {
		takes(t, b, 0, 16)
		takes(t, b, 1, 32)
		takes(t, b, 0, 5000)
	}
	list, e := b.Owned(0)
	wantsError(t, "Owned", e, api.OK)
	for i, x := range list {
		if i > 0 && list[i-1].P >= x.P {
			t.Fatalf("%v stands ahead of %v", list[i-1], x)
		}
		frees(t, b, 0, x.P)
	}
	if len(list) != 600 {
		t.Errorf("%d blocks, not 600", len(list))
	}
	wantsOwned(t, b, 0)
	closes(t, b, 1, 300)
}
