package oracle_test

import (
	"math"
	"slices"
	"testing"

	"croft/api"
)

// P11.5: nothing at all, blocks that stay alone, and one block of each size.
func TestLeastPlain(t *testing.T) {
	for order := range 9 {
		c := config(order, 4)
		wantsLeast(t, c, nil, nil, 0)
		wantsLeast(t, c, []api.Block{}, []uint64{}, 0)
		for _, size := range sizesOf(c) {
			wantsLeast(t, c, nil, []uint64{size}, 1)
			for n := 1; n <= c.Limit; n++ {
				first, end := c.Base+uint64(n-1)*region(c), c.Base+uint64(n)*region(c)
				wantsLeast(t, c, blocks(first, size), nil, n)
				wantsLeast(t, c, blocks(end-size, size), nil, n)
			}
			count := int(region(c) / size)
			wantsLeast(t, c, nil, several(size, count), 1)
			wantsLeast(t, c, nil, several(size, count+1), 2)
			wantsLeast(t, c, nil, several(size, count*c.Limit), c.Limit)
			wantsLeast(t, c, nil, several(size, count*c.Limit+1), -1)
		}
	}
}

// P11.5: a size that is none is refused, wherever it stands among others, and though there were room.
func TestLeastWrongSizes(t *testing.T) {
	for order := range 9 {
		c := config(order, 3)
		for _, size := range append(nearPowers(), 24, 48, 2*region(c), math.MaxUint64) {
			want := -1
			if slices.Contains(sizesOf(c), size) {
				want = 1
			}
			wantsLeast(t, c, nil, []uint64{size}, want)
			if want < 0 {
				wantsLeast(t, c, nil, []uint64{size, 16}, -1)
				wantsLeast(t, c, nil, []uint64{16, 16, size}, -1)
				wantsLeast(t, c, blocks(c.Base, 16), []uint64{16, size, 16}, -1)
			}
		}
	}
}

// P11.5: blocks that stay must be sound with Limit regions.
func TestLeastWrongStay(t *testing.T) {
	for order := range 9 {
		c := config(order, 3)
		end := c.Base + uint64(c.Limit)*region(c)
		for _, stay := range [][]api.Block{
			blocks(end, 16), blocks(c.Base-16, 16), blocks(c.Base, 24), blocks(c.Base, 0), blocks(c.Base, 2*region(c)), blocks(c.Base+8, 16), blocks(0, 16),
			blocks(c.Base, 16, c.Base, 16), blocks(c.Base, 16, c.Base+32, 32), blocks(c.Base, 4096, c.Base, 16), blocks(c.Base, 16, c.Base, 4096), {{}},
		} {
			wantsLeast(t, c, stay, nil, -1)
			wantsLeast(t, c, stay, []uint64{16}, -1)
			wantsLeast(t, c, append(blocks(c.Base+4096, 16), stay...), nil, -1)
		}
		wantsLeast(t, c, blocks(end-16, 16), nil, c.Limit)
	}
}

// P11.5: the blocks that stay leave just room enough, and one cell too few.
func TestLeastJustRoom(t *testing.T) {
	c := config(1, 2)
	for _, size := range sizesOf(c)[:8] {
		count := int(4096 / size)
		for held := 1; held <= count; held += max(1, count/4) {
			stay := cells(c.Base, size, held)
			left := count - held
			wantsLeast(t, c, stay, several(size, left), 1)
			wantsLeast(t, c, stay, several(size, left+count), 1)
			wantsLeast(t, c, stay, several(size, left+count+1), 2)
			wantsLeast(t, c, stay, append(several(size, left), 4096), 1)
			wantsLeast(t, c, stay, append(several(size, left+1), 4096), 2)
			wantsLeast(t, c, stay, append(several(size, left+1), 8192), 2)
			wantsLeast(t, c, stay, append(several(size, left+count+1), 8192), -1)
			wantsLeast(t, c, stay, several(size, left+3*count), 2)
			wantsLeast(t, c, stay, several(size, left+3*count+1), -1)
		}
	}
}

// P11.5: cells find room on pages of blocks that stay, on several of them, in any region, and with gaps; cells of other sizes don't.
func TestLeastSharedPages(t *testing.T) {
	c := config(2, 3)
	page := func(number uint64) uint64 { return c.Base + 4096*number }
	stay := blocks(page(1)+2048, 2048, page(5)+1024, 1024, page(6), 2048, page(7)+3072, 1024)
	wantsLeast(t, c, stay, nil, 2)
	wantsLeast(t, c, stay, several(2048, 2), 2)
	wantsLeast(t, c, stay, several(2048, 2+2*4), 2)
	wantsLeast(t, c, stay, several(2048, 2+2*4+1), 3)
	wantsLeast(t, c, stay, several(1024, 6+4*4), 2)
	wantsLeast(t, c, stay, several(1024, 6+4*4+1), 3)
	wantsLeast(t, c, stay, slices.Concat(several(1024, 6), several(2048, 2), several(4096, 4)), 2)
	wantsLeast(t, c, stay, slices.Concat(several(1024, 7), several(2048, 3), several(4096, 2)), 2)
	wantsLeast(t, c, stay, slices.Concat(several(1024, 7), several(2048, 3), several(4096, 3)), 3)
	wantsLeast(t, c, stay, slices.Concat(several(512, 8), several(16, 256), several(32, 1), several(4096, 1)), 2)
	wantsLeast(t, c, stay, slices.Concat(several(512, 9), several(16, 256), several(32, 1), several(4096, 1)), 3)
	wantsLeast(t, c, stay, []uint64{8192, 4096, 4096}, 2)
	wantsLeast(t, c, stay, []uint64{8192, 8192}, 3)
}

// P11.5: great blocks lie at multiples of their sizes only: free pages that are enough in number may not do.
func TestLeastStretches(t *testing.T) {
	c := config(2, 2)
	page := func(number uint64) uint64 { return c.Base + 4096*number }
	middle := blocks(page(0), 16, page(3), 16) // pages 1 and 2 are free, at no multiple of two
	wantsLeast(t, c, middle, []uint64{4096, 4096}, 1)
	wantsLeast(t, c, middle, []uint64{8192}, 2)
	wantsLeast(t, c, middle, []uint64{8192, 4096, 4096}, 2)
	wantsLeast(t, c, middle, []uint64{8192, 8192, 4096, 4096}, 2)
	wantsLeast(t, c, middle, []uint64{8192, 8192, 8192}, -1)
	wantsLeast(t, c, middle, []uint64{16384}, 2)
	upper := blocks(page(0), 16, page(1), 4096) // pages 2 and 3
	wantsLeast(t, c, upper, []uint64{8192}, 1)
	wantsLeast(t, c, upper, []uint64{8192, 4096}, 2)
	wantsLeast(t, c, upper, []uint64{8192, 16384}, 2)
	wantsLeast(t, c, upper, []uint64{8192, 16384, 32}, -1)
	wantsLeast(t, c, upper, []uint64{8192, 16384, 16}, 2)
	spread := blocks(page(1), 4096, page(6), 4096) // one page in each half, one half in each region
	wantsLeast(t, c, spread, []uint64{8192, 8192, 4096, 4096}, 2)
	wantsLeast(t, c, spread, []uint64{8192, 8192, 8192}, -1)
	wantsLeast(t, c, spread, []uint64{16384}, -1)
	wantsLeast(t, c, blocks(page(4), 16384), []uint64{16384}, 2)
	wantsLeast(t, c, blocks(page(4), 16384), []uint64{16384, 16}, -1)
}

// P11.5: the greatest number of pages, with one cell that is left, and none.
func TestLeastGreatest(t *testing.T) {
	for _, order := range []int{4, 8} {
		c := config(order, 64)
		all := cells(c.Base, 16, 1024*256)
		wantsLeast(t, c, nil, sizesIn(all), c.Limit)
		wantsLeast(t, c, nil, append(sizesIn(all), 16), -1)
		wantsLeast(t, c, all, nil, c.Limit)
		wantsLeast(t, c, all, []uint64{16}, -1)
		wantsLeast(t, c, all[1:], []uint64{16}, c.Limit)
		wantsLeast(t, c, all[1:], []uint64{16, 16}, -1)
		wantsLeast(t, c, all[1:], []uint64{32}, -1)
		wantsLeast(t, c, all[256:], []uint64{4096}, c.Limit)
		wantsLeast(t, c, all[256:], []uint64{4096, 16}, -1)
		wantsLeast(t, c, all[:256], several(region(c), c.Limit-1), c.Limit)
		wantsLeast(t, c, all[:256], several(region(c), c.Limit), -1)
	}
}

// fewSizes tells some great ones, so that all their places can be tried.
func fewSizes(c api.Config, row *numbers) []uint64 {
	var list []uint64
	for range row.below(6) {
		list = append(list, 1024<<row.below(3+c.Order))
	}
	return list
}

// fewBlocks tells some that stay, of great sizes too.
func fewBlocks(c api.Config, row *numbers) []api.Block {
	var list []api.Block
	for range row.below(5) {
		size := uint64(1024) << row.below(2+row.below(2+c.Order))
		b := api.Block{P: c.Base + uint64(row.below(c.Limit*int(region(c)/size)))*size, Size: size}
		if soundBy(c, c.Limit, append(list, b)) == -1 {
			list = append(list, b)
		}
	}
	return list
}

// P11.5: it is the least number: all places of few great blocks are tried, in Configs of few pages.
func TestLeastTried(t *testing.T) {
	met := map[int]int{}
	for seed := range 2400 {
		row := numbers(seed)
		order := row.below(3)
		c := config(order, 1+row.below([]int{6, 4, 2}[order]))
		stay, sizes := fewBlocks(c, &row), fewSizes(c, &row)
		want := leastBy(c, stay, sizes)
		met[want]++
		wantsLeast(t, c, stay, sizes, want)
	}
	for n := -1; n <= 3; n++ {
		if met[n] < 20 {
			t.Errorf("%d was met %d times", n, met[n])
		}
	}
}

// wantsLaid asks that blocks can be laid in so many regions as Least tells, soundly, and not in one less: the greatest ones are laid first.
func wantsLaid(t *testing.T, c api.Config, stay []api.Block, sizes []uint64) int {
	t.Helper()
	n, ok := least(t, c, stay, sizes)
	if !ok {
		n = c.Limit + 1
	} else if all, done := laidIn(c, n, stay, sizes); !done {
		t.Fatalf("Least(%v, %v, %v): %d: they don't lie there", c, stay, sizes, n)
	} else {
		wantsSound(t, c, n, all, -1)
	}
	if n > 0 && sound(t, c, n-1, stay) == -1 {
		if _, done := laidIn(c, n-1, stay, sizes); done {
			t.Fatalf("Least(%v, %v, %v): %d, %v: they lie in %d", c, stay, sizes, n, ok, n-1)
		}
	}
	return n
}

// P11.5: lists of every Order, with blocks of every size, in several orders.
func TestLeastLaid(t *testing.T) {
	refused, told := 0, map[int]int{}
	for seed := range 1800 {
		row := numbers(seed)
		c := config(seed%9, 1+row.below(4))
		stay := drawn(c, row.below(c.Limit+1), &row)
		if row.below(3) == 0 {
			stay = nil
		}
		sizes := drawnSizes(c, 12, &row)
		if n := wantsLaid(t, c, stay, sizes); n > c.Limit {
			refused++
		} else {
			told[n]++
		}
	}
	if refused < 20 || told[1] < 20 || told[2] < 20 || told[3] < 20 {
		t.Errorf("refused %d, told %v", refused, told)
	}
}

// P11.5: of blocks of which some stay and the others may go elsewhere, the regions in which they lie are enough; and so they are with all the room that is left.
func TestLeastOfLive(t *testing.T) {
	for seed := range 90 {
		row := numbers(seed)
		c := config(seed%9, 1+row.below(3))
		regions := row.below(c.Limit + 1)
		stay, sizes := []api.Block(nil), []uint64(nil)
		for _, b := range drawn(c, regions, &row) {
			if row.below(3) == 0 {
				stay = append(stay, b)
			} else {
				sizes = append(sizes, b.Size)
			}
		}
		if n, ok := least(t, c, stay, sizes); !ok || n > regions {
			t.Fatalf("Least(%v, ..): %d, %v, though they lie in %d", c, n, ok, regions)
		}
		if len(sizes) < 400 {
			wantsLaid(t, c, stay, sizes)
		}
	}
}
