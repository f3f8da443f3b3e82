package dict_test

import (
	"slices"
	"testing"

	"croft/api"
)

// wantsRow asks how many words the row of a table has.
func (x *both) wantsRow(i, n int) {
	x.t.Helper()
	x.check()
	if got := len(x.books[i].lists); got != n {
		x.t.Fatalf("%d keys: the row has %d words, not %d", len(x.books[i].order), got, n)
	}
}

// P19.3: the key by which there are more keys than n brings a row of 2 n, and no other one.
func TestRowGrows(t *testing.T) {
	x := newBoth(t, config(1, 64), 1)
	n := 8
	for i, key := range keys(300) {
		if i == n {
			n *= 2
		}
		x.set(0, key, "", false)
		x.wantsRow(0, n)
	}
	x.checkHeap()
}

// P19.3: lists of a row that was made anew: of one place the last one that came is the first, whatever was set anew and deleted ahead.
func TestRowMadeAnew(t *testing.T) {
	for seed := range 40 {
		row := numbers(seed)
		list := slices.Concat(keysAt(16, 3, 4), keysAt(16, 11, 3), keysAt(8, 3, 9)[7:], keysAt(16, 0, 2))
		x := newBoth(t, config(2, 4), 1)
		for len(x.books[0].lists) == 8 {
			key := oneOf(&row, list...)
			switch row.below(4) {
			case 0:
				x.remove(0, key)
			default:
				x.set(0, key, row.text(row.below(3)), false)
			}
			x.check()
		}
		x.wantsRow(0, 16)
		x.checkHeap()
	}
}

// P19.3, by hand: three keys at one place of a row of 8; in that of 16 two of them are at one place still.
func TestRowMadeAnewByHand(t *testing.T) {
	x, h := begin(t, config(1, 8))
	low, high := keysAt(16, 2, 2), keysAt(16, 10, 1)
	base := h.Config().Base
	setsAll(t, x, low[0], high[0], low[1]) // base + 64, + 128, + 192
	wantsWords(t, "the row", h, base, 0, 0, base+192, 0, 0, 0, 0, 0)
	wantsEntry(t, h, base+192, base+128, base+128, 0, low[1], "="+low[1])
	setsAll(t, x, keysAt(16, 5, 6)...) // the last one is the ninth
	row := base + 4096                 // the first page of cells of 128 bytes
	wantsWords(t, "the row", h, row, 0, 0, base+192, 0, 0, base+9*64, 0, 0, 0, 0, base+128, 0, 0, 0, 0, 0)
	wantsEntry(t, h, base+192, base+64, base+128, base+256, low[1], "="+low[1])
	wantsEntry(t, h, base+64, 0, 0, base+128, low[0], "="+low[0])
	wantsEntry(t, h, base+128, 0, base+64, base+192, high[0], "="+high[0])
	if _, e := h.UsableSize(base); e != api.EINVAL {
		t.Error("the old row is live")
	}
}

// P19.3: the new row is refused: the old one stays, and the key is there; it is asked for again by the next new key, and by nothing else.
func TestRowRefused(t *testing.T) {
	x := newBoth(t, config(0, 4), 1)
	list := keys(14)
	for _, key := range list[:8] {
		x.set(0, key, "12", false)
	}
	x.wantsRow(0, 8)
	for _, key := range list[8:11] { // no page for cells of 128 bytes
		wantsError(t, "Set", x.set(0, key, "12", true), api.OK)
		x.wantsRow(0, 8)
	}
	x.set(0, list[0], "21", false)
	x.wantsRow(0, 8)
	x.set(0, list[0], "123", false)
	x.wantsRow(0, 8)
	x.get(0, list[1])
	x.remove(0, list[2])
	x.remove(0, list[2])
	x.wantsRow(0, 8)
	wantsError(t, "Set", x.set(0, list[11], "12", true), api.OK)
	x.wantsRow(0, 8)
	wantsError(t, "Set", x.set(0, list[12], "12", false), api.OK)
	x.wantsRow(0, 16)
	x.checkHeap()
}

// P19.3: a row was refused, and so many keys are deleted that none more than n are there: none is asked for.
func TestRowNotNeeded(t *testing.T) {
	x := newBoth(t, config(0, 4), 1)
	list := keys(12)
	for i, key := range list[:10] {
		x.set(0, key, "", i >= 8)
	}
	for _, key := range list[3:6] {
		x.remove(0, key)
	}
	x.wantsRow(0, 8)
	x.set(0, list[10], "", false) // the eighth
	x.wantsRow(0, 8)
	x.set(0, list[11], "", false) // the ninth
	x.wantsRow(0, 16)
	x.checkHeap()
}

// P19.3: an entry that is refused brings no row, though there are more keys than n.
func TestEntryRefusedNoRow(t *testing.T) {
	x := newBoth(t, config(0, 4), 1)
	for i, key := range keys(10) {
		x.set(0, key, "", i >= 8)
	}
	x.wantsRow(0, 8)
	for _, deny := range []bool{true, false} {
		wantsError(t, "Set", x.set(0, "more", long("", 4100), deny), api.ETOOBIG)
		wantsError(t, "Set", x.set(0, "more", long("", 70000), deny), api.ELIMIT)
		x.wantsRow(0, 8)
	}
	wantsError(t, "Set", x.set(0, "more", long("", 4000), true), api.ENOMEM)
	x.wantsRow(0, 8)
	x.checkHeap()
}

// P19.3: 2 n words just R bytes, and past it: then the row stays, and the lists get longer.
func TestGreatestRow(t *testing.T) {
	for order := range 2 {
		x := newBoth(t, config(order, 64), 1)
		most := regionBytes(x.h.Config()) / 8
		for i, key := range keys(most + 60) {
			wantsError(t, "Set", x.set(0, key, "", false), api.OK)
			switch i + 1 {
			case most / 2:
				x.wantsRow(0, most/2)
			case most/2 + 1, most, most + 1, most + 60:
				x.wantsRow(0, most)
			}
		}
		x.checkHeap()
	}
}

// P19.4: rows don't shrink, till the table is dropped.
func TestRowStays(t *testing.T) {
	x := newBoth(t, config(1, 8), 1)
	list := keys(40)
	for _, key := range list {
		x.set(0, key, "", false)
	}
	x.wantsRow(0, 64)
	for _, key := range list {
		x.remove(0, key)
		x.wantsRow(0, 64)
	}
	for _, key := range list {
		x.set(0, key, "", false)
		x.wantsRow(0, 64)
	}
	x.drop(0)
	x.wantsRow(0, 0)
	x.set(0, "a", "", false)
	x.wantsRow(0, 8)
	x.checkHeap()
}
