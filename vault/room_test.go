package vault_test

import (
	"testing"

	"croft/api"
	"croft/vault"
)

// plan is a number of pages: which of them meet a great block, or have cells of a size.
type plan []uint64

// canLie says whether blocks can lie in so many regions, by trying all places for the greater ones. It asks nothing of oracle.
func canLie(c api.Config, regions int, stay []api.Block, sizes []uint64) bool {
	pages := make(plan, regions<<c.Order)
	rooms := map[uint64]uint64{} // of each small size: the cells that are left on pages which have it
	for _, b := range stay {
		first := int(b.P-c.Base) / 4096
		if first >= len(pages) {
			return false
		}
		if b.Size < 4096 && pages[first] == 0 {
			rooms[b.Size] += 4096 / b.Size
		}
		for i := range max(1, int(b.Size/4096)) {
			pages[first+i] = b.Size
		}
		if b.Size < 4096 {
			rooms[b.Size]--
		}
	}
	need := map[int]int{} // how many blocks of so many pages
	counts := map[uint64]uint64{}
	for _, size := range sizes {
		if size >= 4096 {
			need[int(size/4096)]++
		} else {
			counts[size]++
		}
	}
	for size, count := range counts {
		for left := rooms[size]; left < count; left += 4096 / size {
			need[1]++ // a page for more of its cells
		}
	}
	return pages.try(need, 2, 0)
}

// try looks for places for so many blocks of two pages, from a page on, then of four, and so on; in all ways, those of one length rising. Single pages are left for the end: any will do.
func (pages plan) try(need map[int]int, long, from int) bool {
	if long > 256 {
		left := 0
		for first := range pages {
			if pages.free(first, 1) {
				left++
			}
		}
		return left >= need[1]
	}
	if need[long] == 0 {
		return pages.try(need, 2*long, 0)
	}
	need[long]--
	defer func() { need[long]++ }()
	for first := from; first+long <= len(pages); first += long {
		if pages.free(first, long) {
			pages.set(first, long, most)
			can := pages.try(need, long, first+long)
			pages.set(first, long, 0)
			if can {
				return true
			}
		}
	}
	return false
}

func (pages plan) free(first, long int) bool {
	for _, size := range pages[first : first+long] {
		if size != 0 {
			return false
		}
	}
	return true
}

func (pages plan) set(first, long int, size uint64) {
	for i := range long {
		pages[first+i] = size
	}
}

// known is what is known of a vault's blocks: their sizes, and of those that are pinned, where.
type known struct {
	sizes  map[int]uint64
	places map[int]uint64
}

func (k known) parted() (stay []api.Block, sizes []uint64) {
	for handle, size := range k.sizes {
		if p, is := k.places[handle]; is {
			stay = append(stay, api.Block{P: p, Size: size})
		} else {
			sizes = append(sizes, size)
		}
	}
	return stay, sizes
}

// tells says whether the blocks, and others, can lie in so many regions.
func (k known) tells(c api.Config, regions int, more ...uint64) bool {
	stay, sizes := k.parted()
	return canLie(c, regions, stay, append(more, sizes...))
}

// change frees, pins or lets go of a drawn block.
func (k known) change(t *testing.T, v *vault.Vault, row *numbers, pinning int) {
	t.Helper()
	for _, handle := range v.Handles() {
		_, pinned := k.places[handle]
		switch {
		case pinned && row.below(3) == 0:
			unpins(t, v, handle)
			delete(k.places, handle)
		case !pinned && row.below(100) < pinning:
			p, e := v.Pin(handle)
			wantsError(t, "Pin", e, api.OK)
			k.places[handle] = p
		case !pinned && row.below(2) == 0:
			frees(t, v, handle)
			delete(k.sizes, handle)
		}
	}
}

// T8, P16.8, P16.9: a request fails just if no way of laying the blocks has room for it; a region comes just if none had in those that there were; Compact leaves the least number that has. All ways are tried.
func TestRoomIsNotLost(t *testing.T) {
	failed, grew, kept := 0, 0, 0
	for seed := range 300 {
		row := numbers(seed)
		c := config(seed%4, 1+seed/4%2)
		v := newVault(t, c)
		k := known{map[int]uint64{}, map[int]uint64{}}
		for range 60 {
			size, deny, n := row.size(c), row.below(2) == 0, v.Image().Regions
			if row.below(2) == 0 {
				size = 4096 // so that there are many to lie in the way
			}
			room := k.tells(c, n, sizeFor(c, size))
			handle, e := v.Malloc(size, deny)
			if (e == api.ENOMEM) != (!room && (deny || n == c.Limit)) || e != api.OK && e != api.ENOMEM {
				t.Fatalf("Malloc(%d, %v): %v, with %d regions; there is room: %v", size, deny, e, n, room)
			}
			want := n
			if e == api.OK {
				k.sizes[handle] = sizeFor(c, size)
				if !room {
					want++
					grew++
				}
				kept++
			} else {
				failed++
			}
			wantsRegions(t, v, want)
			if row.below(4) == 0 {
				k.change(t, v, &row, seed%5*5)
			}
			if row.below(10) == 0 {
				wantsLeast(t, v, c, k)
			}
			for handle, p := range k.places {
				if got := placeOf(t, v, handle); got != p {
					t.Fatalf("the pinned block %d lies at %d, not %d", handle, got, p)
				}
			}
		}
	}
	if min(failed, grew, kept) < 400 {
		t.Errorf("%d failed, %d regions came, %d blocks came", failed, grew, kept)
	}
}

// wantsLeast asks that Compact leaves the least number of regions that will do.
func wantsLeast(t *testing.T, v *vault.Vault, c api.Config, k known) {
	t.Helper()
	ahead, want := v.Image().Regions, 0
	for !k.tells(c, want) {
		want++
	}
	wantsCompact(t, v, ahead-want)
	wantsRegions(t, v, want)
	wantsSound(t, v)
}

// pagesFor is P: the pages of all greater blocks, and for each class as few as its blocks need.
func pagesFor(sizes map[int]uint64, more ...uint64) uint64 {
	counts := map[uint64]uint64{}
	for _, size := range sizes {
		counts[size]++
	}
	for _, size := range more {
		counts[size]++
	}
	sum := uint64(0)
	for size, count := range counts {
		if size >= 4096 {
			sum += count * (size / 4096)
		} else {
			sum += (count*size + 4095) / 4096
		}
	}
	return sum
}

// P16.9, T8: with nothing pinned all hangs on P, and on nothing else: up to the last page.
func TestPages(t *testing.T) {
	failed, grew := 0, 0
	for seed := range 100 {
		row := numbers(seed)
		c := config(seed%6, 1+seed%5)
		v := newVault(t, c)
		k := known{map[int]uint64{}, nil}
		for range 150 {
			size, deny, n := row.size(c), row.below(2) == 0, v.Image().Regions
			short := pagesFor(k.sizes, sizeFor(c, size)) > uint64(n)<<c.Order
			handle, e := v.Malloc(size, deny)
			if (e == api.ENOMEM) != (short && (deny || n == c.Limit)) {
				t.Fatalf("Malloc(%d, %v): %v, with %d regions; they are too few: %v", size, deny, e, n, short)
			}
			if e == api.OK {
				k.sizes[handle] = sizeFor(c, size)
			} else {
				failed++
			}
			if short && e == api.OK {
				n++
				grew++
			}
			wantsRegions(t, v, n)
			if row.below(15) == 0 {
				k.change(t, v, &row, 0)
			}
			if row.below(15) == 0 {
				r := uint64(1) << c.Order
				v.Compact()
				wantsRegions(t, v, int((pagesFor(k.sizes)+r-1)/r))
				unchanged(t, "Compact once more", v, func() { wantsCompact(t, v, 0) })
			}
		}
	}
	if min(failed, grew) < 200 {
		t.Errorf("%d failed, %d regions came", failed, grew)
	}
}
