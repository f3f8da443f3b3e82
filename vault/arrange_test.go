package vault_test

import "testing"

// Words: the greatest come first, then the classes from 7 down to 0, whatever their handles; those of one size by their handles.
func TestArrangeBySize(t *testing.T) {
	c := config(2, 2)
	v := newVault(t, c)
	takesAll(t, v, 16, 4096, 8192, 2048, 4096, 16, 32)
	wantsCompact(t, v, 0)
	wantsAt(t, v, c, map[int]uint64{3: 0, 2: 8192, 5: 12288, 4: 16384, 7: 20480, 1: 24576, 6: 24592})
	wantsSound(t, v)
}

// Words: one block of each size, asked for from the least to the greatest: they lie the other way round.
func TestArrangeEachSize(t *testing.T) {
	c := config(3, 8)
	v := newVault(t, c)
	for size := uint64(16); size <= 32768; size *= 2 {
		takesAll(t, v, size)
	}
	v.Compact()
	want, offset := map[int]uint64{}, uint64(0)
	for handle, size := 12, uint64(32768); size >= 16; handle, size = handle-1, size/2 {
		want[handle] = offset
		offset += max(size, 4096)
	}
	wantsAt(t, v, c, want)
	wantsRegions(t, v, 3)
}

// Words: those of one size by their handles, the lowest first, wherever they lay before.
func TestArrangeByHandle(t *testing.T) {
	for _, size := range []uint64{16, 128, 2048, 4096, 8192} {
		c := config(5, 1)
		v := newVault(t, c)
		takesAll(t, v, times(6, size)...)
		frees(t, v, 1, 4, 2)
		takesAll(t, v, size, size, size) // they come to places of those that went, below 5 and 6
		frees(t, v, 3)
		wantsCompact(t, v, 0)
		wantsAt(t, v, c, map[int]uint64{5: 0, 6: size, 7: 2 * size, 8: 3 * size, 9: 4 * size})
	}
}

// Words: the new block of a laying comes behind all others of its size, for its handle is the highest, and ahead of all smaller ones.
func TestArrangeTheNewOne(t *testing.T) {
	c := config(3, 1)
	v := full(t, c, 1)
	frees(t, v, 1, 4, 6, 7)
	takes(t, v, 8192, true, 9)
	wantsAt(t, v, c, map[int]uint64{9: 0, 2: 8192, 3: 12288, 5: 16384, 8: 20480})
	frees(t, v, 2, 5)
	takes(t, v, 8192, true, 10) // the heap has a place for it: nothing moves
	wantsAt(t, v, c, map[int]uint64{9: 0, 3: 12288, 8: 20480, 10: 24576})
	takes(t, v, 8192, true, 11)
	wantsAt(t, v, c, map[int]uint64{9: 0, 10: 8192, 11: 16384, 3: 24576, 8: 28672})
}

// Words: greater blocks lie around what is pinned, each at the lowest multiple of its size that meets nothing.
func TestArrangeAroundPinned(t *testing.T) {
	c := config(3, 2)
	v := full(t, c, 1)
	pins(t, v, 2, c.Base+4096)
	frees(t, v, 1, 3, 4, 5, 6, 7)
	takesAll(t, v, 8192, 4096, 16384)
	wantsCompact(t, v, 0)
	wantsAt(t, v, c, map[int]uint64{2: 4096, 11: 16384, 9: 8192, 8: 0, 10: 32768})
	frees(t, v, 11)
	wantsCompact(t, v, 1)
	wantsAt(t, v, c, map[int]uint64{2: 4096, 9: 8192, 8: 0, 10: 16384})
}

// Words: a great block that is pinned stays, and those of its size and of others lie around it.
func TestArrangeAroundGreatPinned(t *testing.T) {
	c := config(3, 1)
	v := newVault(t, c)
	takesAll(t, v, 8192, 8192, 8192)
	pins(t, v, 2, c.Base+8192)
	frees(t, v, 1)
	takesAll(t, v, 4096, 2048)
	wantsCompact(t, v, 0)
	wantsAt(t, v, c, map[int]uint64{2: 8192, 3: 0, 4: 16384, 5: 20480})
}

// Words: small blocks go to the pages on which one of their class is pinned, to the lowest cell that is left, though lower pages are free.
func TestArrangeCells(t *testing.T) {
	c := config(2, 1)
	v := newVault(t, c)
	takesAll(t, v, 4096, 16, 16, 16, 16, 16, 16)
	pins(t, v, 7, c.Base+4096+80)
	frees(t, v, 1, 2, 3, 4)
	wantsCompact(t, v, 0)
	wantsAt(t, v, c, map[int]uint64{7: 4176, 5: 4096, 6: 4112})
	takesAll(t, v, 16, 16, 16, 16)
	wantsCompact(t, v, 0)
	wantsAt(t, v, c, map[int]uint64{7: 4176, 5: 4096, 6: 4112, 8: 4128, 9: 4144, 10: 4160, 11: 4192})
}

// Words: of several pages with pinned blocks of their class they go to the lowest that has a cell left; and to a page that meets nothing only when none has.
func TestArrangeTwoPages(t *testing.T) {
	c := config(2, 1)
	v := newVault(t, c)
	takesAll(t, v, times(6, 2048)...)
	pins(t, v, 4, c.Base+6144)
	pins(t, v, 2, c.Base+2048)
	frees(t, v, 1, 3)
	wantsCompact(t, v, 0)
	wantsAt(t, v, c, map[int]uint64{2: 2048, 4: 6144, 5: 0, 6: 4096})
	takesAll(t, v, 2048, 2048, 2048)
	wantsCompact(t, v, 0)
	wantsAt(t, v, c, map[int]uint64{2: 2048, 4: 6144, 5: 0, 6: 4096, 7: 8192, 8: 10240, 9: 12288})
}

// Words: pages whose cells are all pinned are no place; the lowest page that meets nothing may lie below them.
func TestArrangeBelowPinned(t *testing.T) {
	c := config(2, 1)
	v := newVault(t, c)
	takesAll(t, v, 4096, 2048, 2048, 2048)
	pins(t, v, 2, c.Base+4096)
	pins(t, v, 3, c.Base+6144)
	frees(t, v, 1)
	wantsCompact(t, v, 0)
	wantsAt(t, v, c, map[int]uint64{2: 4096, 3: 6144, 4: 0})
	takesAll(t, v, 2048, 2048)
	wantsCompact(t, v, 0)
	wantsAt(t, v, c, map[int]uint64{2: 4096, 3: 6144, 4: 0, 5: 2048, 6: 8192})
}

// Words: a page with a pinned block of another class is no place.
func TestArrangeOtherClasses(t *testing.T) {
	c := config(2, 1)
	v := newVault(t, c)
	takesAll(t, v, 16, 32, 64)
	pins(t, v, 2, c.Base+4096)
	frees(t, v, 1)
	takesAll(t, v, 16, 32, 64)
	wantsCompact(t, v, 0)
	wantsAt(t, v, c, map[int]uint64{2: 4096, 3: 0, 6: 64, 5: 4128, 4: 8192})
}

// Words: all 256 cells of a page of class 0, and one more.
func TestArrangeAFullPage(t *testing.T) {
	c := config(3, 1)
	v := newVault(t, c)
	handles := takesAll(t, v, times(600, 16)...)
	pins(t, v, 300, c.Base+299*16)
	want := map[int]uint64{300: 299 * 16}
	place := uint64(4096) // the page of what is pinned comes first
	for _, handle := range handles {
		switch {
		case handle == 300:
		case handle%2 == 1 || handle > 520:
			frees(t, v, handle)
		default:
			if place == 299*16 {
				place += 16
			}
			if place == 8192 {
				place = 0
			}
			want[handle] = place
			place += 16
		}
	}
	wantsCompact(t, v, 0)
	wantsAt(t, v, c, want)
	if place != 64 {
		t.Errorf("the last one lies ahead of %d", place)
	}
}
