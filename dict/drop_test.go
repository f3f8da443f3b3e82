package dict_test

import (
	"strconv"
	"testing"

	"croft/api"
)

// P19.6: entries are freed in the order of coming, then the row: so the heap's lists are, and what it tells next.
func TestDropOrder(t *testing.T) {
	for seed := range 60 {
		row := numbers(seed)
		x := newBoth(t, config(seed%4, 8), 1)
		for range 60 {
			key := strconv.Itoa(row.below(25))
			if row.below(4) == 0 {
				x.remove(0, key)
			} else {
				x.set(0, key, row.text(row.below(60)), false)
			}
		}
		x.drop(0)
		x.check()
		x.checkHeap()
		for range 60 {
			x.takes(&row, uint64(16)<<row.below(9), true)
		}
		x.check()
		x.checkHeap()
	}
}

// P19.6, P19.7: behind Drop the heap has just the live blocks that it had without the table's, wherever these lay, and they hold what they held; another table's, too.
func TestDropBesideOthers(t *testing.T) {
	for seed := range 60 {
		row := numbers(seed)
		x := newBoth(t, config(seed%6, 6), 2)
		for range 80 {
			switch row.below(4) {
			case 0:
				x.others(&row)
			default:
				x.sets(row.below(2), &row)
			}
		}
		for i := range x.tables {
			x.drop(i)
			x.check()
			x.checkStrange()
		}
		live := 0
		for b := range x.strange {
			live += int(b.Size)
		}
		if got := x.h.Stats(); got.L != uint64(live) || got.Blocks != len(x.strange) {
			t.Fatalf("the heap's Stats: %+v; %d blocks of %d bytes are others'", got, len(x.strange), live)
		}
	}
}

// P19.6: Drop of a table without keys, of one that was dropped, of one whose keys were all deleted.
func TestDropOfNone(t *testing.T) {
	x, h := begin(t, example())
	x.Drop()
	wantsLive(t, h)
	unchanged(t, "Drop", x, h, x.Drop)
	mine := takes(t, h, 64) // where the row was
	unchanged(t, "Drop", x, h, x.Drop)
	wantsLive(t, h, api.Block{P: mine, Size: 64})
	setsAll(t, x, keys(20)...)
	deletes(t, x, keys(20)...)
	x.Drop()
	wantsLive(t, h, api.Block{P: mine, Size: 64})
	wantsAll(t, x)
}
