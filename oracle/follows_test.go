package oracle_test

import (
	"slices"
	"testing"

	"croft/api"
	"croft/oracle"
)

// P11.6: no answer hangs on the order of a list.
func TestAnyOrder(t *testing.T) {
	for seed := range 180 {
		row := numbers(seed)
		c := config(seed%9, 1+row.below(4))
		regions := row.below(c.Limit + 1)
		list, sizes := drawn(c, regions, &row), drawnSizes(c, 30, &row)
		n, ok := least(t, c, list, sizes)
		for range 3 {
			other, turned := shuffled(list, &row), shuffled(sizes, &row)
			wantsSound(t, c, regions, other, -1)
			for _, r := range sizesOf(c) {
				wantsNoFit(t, c, regions, other, r, noFit(t, c, regions, list, r))
			}
			if m, is := least(t, c, other, turned); m != n || is != ok {
				t.Fatalf("Least in another order: %d, %v; not %d, %v", m, is, n, ok)
			}
		}
	}
}

// P11.6: where a block does not fit, no greater one of whole pages does.
func TestNoFitOfGreater(t *testing.T) {
	met := 0
	for seed := range 360 {
		row := numbers(seed)
		c := config(seed%9, 1+row.below(4))
		regions := row.below(c.Limit + 1)
		list := crowded(c, regions, &row)
		for i, r := range sizesOf(c) {
			if !noFit(t, c, regions, list, r) {
				continue
			}
			for _, greater := range sizesOf(c)[i:] {
				if greater >= 4096 {
					met++
					wantsNoFit(t, c, regions, list, greater, true)
				}
			}
		}
	}
	if met < 500 {
		t.Errorf("met %d times", met)
	}
}

// P11.6: with more blocks, a block of whole pages that did not fit does not fit either.
func TestNoFitOfMore(t *testing.T) {
	met := 0
	for seed := range 180 {
		row := numbers(seed)
		c := config(seed%9, 1+row.below(3))
		regions := row.below(c.Limit + 1)
		list := drawn(c, regions, &row)
		more := crowded(c, regions, &row)
		for _, r := range sizesOf(c)[8:] {
			if !noFit(t, c, regions, list, r) {
				continue
			}
			with := slices.Clone(list)
			for _, b := range more[:min(len(more), 40)] {
				if soundBy(c, regions, append(with, b)) == -1 {
					with = append(with, b)
					met++
				}
			}
			wantsNoFit(t, c, regions, with, r, true)
		}
	}
	if met < 100 {
		t.Errorf("met %d times", met)
	}
}

// P11.6: what is sound in so many regions needs no more of them, wherever it may lie.
func TestLeastOfSound(t *testing.T) {
	for seed := range 270 {
		row := numbers(seed)
		c := config(seed%9, 1+row.below(64))
		regions := row.below(c.Limit + 1)
		list := drawn(c, regions, &row)
		if n, ok := least(t, c, nil, sizesIn(list)); !ok || n > regions {
			t.Fatalf("Least of what lies in %d of %v: %d, %v", regions, c, n, ok)
		}
		if n, ok := least(t, c, list, nil); !ok || n > regions {
			t.Fatalf("Least of what stays in %d of %v: %d, %v", regions, c, n, ok)
		}
	}
}

// leastOf is P11.6's formula: with no blocks that stay the pages are counted.
func leastOf(c api.Config, sizes []uint64) int {
	pages := uint64(0)
	for _, size := range sizesOf(c) {
		count := uint64(0)
		for _, other := range sizes {
			if other == size {
				count++
			}
		}
		if size >= 4096 {
			pages += count * (size / 4096)
		} else {
			pages += (count*size + 4095) / 4096
		}
	}
	for n := range c.Limit + 1 {
		if uint64(n)*region(c)/4096 >= pages {
			return n
		}
	}
	return -1
}

// P11.6: with no blocks that stay, Least is the regions for the pages; false, where these are more than Limit.
func TestLeastOfNoStay(t *testing.T) {
	refused := 0
	for seed := range 900 {
		row := numbers(seed)
		c := config(seed%9, 1+row.below(64))
		sizes := drawnSizes(c, 1+row.below(1<<(2+row.below(9))), &row)
		want := leastOf(c, sizes)
		if want < 0 {
			refused++
		}
		wantsLeast(t, c, nil, sizes, want)
	}
	if refused < 50 || refused > 800 {
		t.Errorf("refused %d", refused)
	}
}

// wantsBound asks for P11.6's last and T4's inequalities.
func wantsBound(t *testing.T, c api.Config, regions int, list []api.Block, r uint64) {
	t.Helper()
	long, m := oracle.Bound(r)
	h, l := uint64(regions)*region(c), bytesIn(list)
	if long*l < m*h {
		t.Fatalf("Bound(%d) of %v: %d L < %d H", r, list, long, m)
	}
	if !slices.ContainsFunc(list, func(b api.Block) bool { return b.Size < 4096 }) && long*l < 4096*h {
		t.Fatalf("%v: %d L < PageSize H", list, long)
	}
}

// P11.6, T4: where nothing fits, so much is live.
func TestBoundHolds(t *testing.T) {
	met := 0
	for seed := range 540 {
		row := numbers(seed)
		c := config(seed%9, 1+row.below(4))
		regions := row.below(c.Limit + 1)
		list := crowded(c, regions, &row)
		if row.below(2) == 0 {
			list = thinned(c, list, &row)
		}
		for _, r := range sizesOf(c) {
			if noFit(t, c, regions, list, r) {
				met++
				wantsBound(t, c, regions, list, r)
			}
		}
	}
	if met < 500 {
		t.Errorf("met %d times", met)
	}
}

// thinned tells, of each page that is met, often one least block alone.
func thinned(c api.Config, list []api.Block, row *numbers) []api.Block {
	seen := map[uint64]int{}
	var thin []api.Block
	size := uint64(16) << row.below(3)
	for _, b := range list {
		page := b.P / 4096
		if b.Size > 4096 {
			thin = append(thin, b)
		} else if seen[page] == 0 {
			thin = append(thin, api.Block{P: page * 4096, Size: size})
		}
		seen[page]++
	}
	return thin
}

// T4, P11.4: both bounds are met with equality, by the lists that T4 tells: the m bytes at each multiple of c.
func TestBoundMet(t *testing.T) {
	for order := range 9 {
		c := config(order, 64)
		for _, k := range []int{1, 2, c.Limit/2 + 1, c.Limit} {
			k = min(k, c.Limit)
			for _, r := range sizesOf(c) {
				long, m := oracle.Bound(r)
				for _, size := range []uint64{m, 4096} {
					var list []api.Block
					for p := c.Base; p < c.Base+uint64(k)*region(c); p += long {
						list = append(list, api.Block{P: p, Size: size})
					}
					wantsNoFit(t, c, k, list, r, true)
					if h := uint64(k) * region(c); long*bytesIn(list) != size*h {
						t.Fatalf("Bound(%d): not %d L = %d H", r, long, size)
					}
				}
			}
		}
	}
}
