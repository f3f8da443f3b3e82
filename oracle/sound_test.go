package oracle_test

import (
	"math"
	"slices"
	"testing"

	"croft/api"
)

// P11.2: regions from 0 to Limit are taken, others refused, whatever the list is.
func TestSoundRegions(t *testing.T) {
	for order := range 9 {
		c := config(order, 5)
		for regions := range c.Limit + 1 {
			wantsSound(t, c, regions, nil, -1)
			wantsSound(t, c, regions, []api.Block{}, -1)
			wantsSound(t, c, regions, cells(c.Base, region(c), regions), -1)
			wantsSound(t, c, regions, cells(c.Base, region(c), c.Limit+1), regions)
		}
		for _, regions := range []int{-1, -2, c.Limit + 1, c.Limit + 2, 65, math.MaxInt, math.MinInt} {
			wantsSound(t, c, regions, nil, 0)
			wantsSound(t, c, regions, blocks(c.Base, 16), 0)
			wantsSound(t, c, regions, blocks(c.Base, 16, c.Base, 16), 0)
		}
	}
}

// P11.2: the sizes of blocks, and others.
func TestSoundSizes(t *testing.T) {
	for order := range 9 {
		c := config(order, 2)
		for _, size := range nearPowers() {
			want := 0
			if slices.Contains(sizesOf(c), size) {
				want = -1
			}
			wantsSound(t, c, c.Limit, blocks(c.Base, size), want)
			wantsSound(t, c, 0, blocks(c.Base, size), 0)
		}
	}
}

// P11.2: a block just ahead of the committed bytes, at their beginning, at their end, and just behind them; and one that is at no multiple of its size.
func TestSoundPlaces(t *testing.T) {
	for order := range 9 {
		c := config(order, 3)
		for regions := 1; regions <= c.Limit; regions++ {
			end := c.Base + uint64(regions)*region(c)
			for _, size := range sizesOf(c) {
				wantsSound(t, c, regions, blocks(c.Base-size, size), 0)
				wantsSound(t, c, regions, blocks(c.Base, size), -1)
				wantsSound(t, c, regions, blocks(end-size, size), -1)
				wantsSound(t, c, regions, blocks(end, size), 0)
				for _, p := range []uint64{c.Base + 1, c.Base - 1, end - 1, end - size + 1, end - size - 1, c.Base + size/2, end - size/2, c.Base - size/2, 0, 1, 16, 1 << 63, math.MaxUint64, -size} {
					wantsSound(t, c, regions, blocks(p, size), 0)
				}
			}
		}
	}
}

// P11.2: each two sizes on one page and on two, or one in the other: just the second of the list is the first that can't be, if they meet.
func TestSoundPairs(t *testing.T) {
	for order := range 4 {
		c := config(order, 2)
		for _, one := range sizesOf(c) {
			for _, other := range sizesOf(c) {
				p := c.Base + max(one, other) // just behind, or apart by the difference
				if p+other <= c.Base+2*region(c) {
					want := -1
					if p/4096 == c.Base/4096 && one != other {
						want = 1
					}
					wantsSound(t, c, 2, blocks(c.Base, one, p, other), want)
					wantsSound(t, c, 2, blocks(p, other, c.Base, one), want)
				}
				last := c.Base + max(one, other) - other // in the last bytes of the first one, if it is less
				wantsSound(t, c, 2, blocks(c.Base, one, last, other), soundBy(c, 2, blocks(c.Base, one, last, other)))
				if other <= one {
					wantsSound(t, c, 2, blocks(c.Base, one, last, other), 1)
					wantsSound(t, c, 2, blocks(last, other, c.Base, one), 1)
				}
			}
		}
	}
}

// P11.2: two that meet in one byte: one of them is at no multiple of its size; two that just touch are sound.
func TestSoundOneByte(t *testing.T) {
	for order := range 9 {
		c := config(order, 2)
		for _, size := range sizesOf(c) {
			next := c.Base + size
			wantsSound(t, c, 2, blocks(c.Base, size, next, size), -1)
			wantsSound(t, c, 2, blocks(next, size, c.Base, size), -1)
			wantsSound(t, c, 2, blocks(c.Base, size, next-1, size), 1)
			wantsSound(t, c, 2, blocks(next-1, size, c.Base, size), 0)
			wantsSound(t, c, 2, blocks(c.Base, size, next-16, 16), 1)
			wantsSound(t, c, 2, blocks(next-16, 16, c.Base, size), 1)
		}
	}
}

// P11.2: two sizes on one page are found wherever they stand in the list, the first and the last of it too.
func TestSoundMixed(t *testing.T) {
	c := config(1, 2)
	for _, small := range sizesOf(c)[:8] {
		for _, other := range sizesOf(c)[:8] {
			if other == small {
				continue
			}
			full := cells(c.Base+4096, 4096, 3) // other pages
			first := api.Block{P: c.Base, Size: small}
			last := api.Block{P: c.Base + 4096 - other, Size: other}
			list := slices.Concat([]api.Block{first}, full, []api.Block{last})
			wantsSound(t, c, 2, list, 4)
			wantsSound(t, c, 2, backward(list), 4)
			wantsSound(t, c, 2, list[:4], -1)
			wantsSound(t, c, 2, list[1:], -1)
			wantsSound(t, c, 2, slices.Concat([]api.Block{first, last}, full), 1)
			wantsSound(t, c, 2, slices.Concat(full, []api.Block{last, first}), 4)
		}
	}
}

// P11.2: every cell of a page, of each class; one more, twice the same, is told by its number.
func TestSoundFull(t *testing.T) {
	for order := range 9 {
		c := config(order, 2)
		for _, size := range sizesOf(c) {
			count := int(max(4096, size) / size)
			list := cells(c.Base, size, count)
			wantsSound(t, c, 1, list, -1)
			wantsSound(t, c, 1, backward(list), -1)
			for _, i := range []int{0, count / 2, count - 1} {
				wantsSound(t, c, 1, append(slices.Clone(list), list[i]), count)
			}
		}
	}
}

// P11.2: the greatest number of pages, each full of the least cells, is sound.
func TestSoundGreatest(t *testing.T) {
	for _, order := range []int{4, 8} {
		c := config(order, 64)
		list := cells(c.Base, 16, 1024*256)
		wantsSound(t, c, c.Limit, list, -1)
		wantsSound(t, c, c.Limit, append(list, api.Block{P: c.Base + 16, Size: 16}), 1024*256)
		wantsSound(t, c, c.Limit-1, list, 1024*256/c.Limit*(c.Limit-1))
	}
}

// spoilt changes a block of a list, or adds one.
func spoilt(c api.Config, list []api.Block, row *numbers) []api.Block {
	list = slices.Clone(list)
	any := api.Block{P: c.Base + uint64(row.below(int(region(c))*c.Limit))&^15, Size: 16 << row.below(9+c.Order)}
	if row.below(2) == 0 {
		any.P = any.P / any.Size * any.Size
	}
	if len(list) == 0 {
		return append(list, any)
	}
	i := row.below(len(list))
	switch row.below(6) {
	case 0:
		list[i].Size *= 2
	case 1:
		list[i].Size /= 2
	case 2:
		list[i].P ^= 1 << row.below(22)
	case 3:
		list[i].P += list[i].Size
	case 4:
		return append(list, list[i])
	default:
		return append(list, any)
	}
	return list
}

// P11.2: lists of every Order, sound and spoilt, in several orders, hold against the chapter's words.
func TestSoundAny(t *testing.T) {
	met := map[bool]int{}
	for seed := range 900 {
		row := numbers(seed)
		c := config(seed%9, 1+row.below(3))
		regions := row.below(c.Limit + 1)
		list := drawn(c, regions, &row)
		if len(list) > 1200 {
			list = list[len(list)-1200:]
		}
		wantsSound(t, c, regions, list, -1)
		wantsSound(t, c, regions, shuffled(list, &row), -1)
		wantsSound(t, c, regions, backward(list), -1)
		for range 2 {
			list = shuffled(spoilt(c, list, &row), &row)
			want := soundBy(c, regions, list)
			met[want == -1]++
			wantsSound(t, c, regions, list, want)
			wantsSound(t, c, regions, backward(list), soundBy(c, regions, backward(list)))
		}
	}
	if met[true] < 50 || met[false] < 50 {
		t.Errorf("sound, not sound: %v", met)
	}
}
