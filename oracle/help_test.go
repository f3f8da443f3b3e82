package oracle_test

import (
	"slices"
	"testing"

	"croft/api"
	"croft/oracle"
)

// numbers gives the same long row of numbers each time.
type numbers uint64

func (n *numbers) below(end int) int {
	*n = *n*6364136223846793005 + 1442695040888963407
	return int(uint64(*n) >> 33 % uint64(end))
}

// word tells one of 64 bits.
func (n *numbers) word() uint64 {
	return uint64(n.below(1<<31))<<33 ^ uint64(n.below(1<<31))<<11 ^ uint64(n.below(1<<31))
}

// config is one of an order, with as many regions as may be, up to most.
func config(order, most int) api.Config {
	return api.Config{Base: 1 << 32, Limit: min(most, 64, 1024>>order), Order: order}
}

// region tells R, by doubling.
func region(c api.Config) uint64 {
	r := uint64(4096)
	for range c.Order {
		r += r
	}
	return r
}

// sizesOf tells all sizes of blocks, rising.
func sizesOf(c api.Config) []uint64 {
	var list []uint64
	for r := uint64(16); r <= region(c); r += r {
		list = append(list, r)
	}
	return list
}

// blocks tells those of addresses and sizes in turn.
func blocks(pairs ...uint64) []api.Block {
	var list []api.Block
	for i := 0; i < len(pairs); i += 2 {
		list = append(list, api.Block{P: pairs[i], Size: pairs[i+1]})
	}
	return list
}

// cells tells blocks of a size, so many from p on, each just behind the other.
func cells(p, size uint64, count int) []api.Block {
	var list []api.Block
	for range count {
		list = append(list, api.Block{P: p, Size: size})
		p += size
	}
	return list
}

// several tells a size so many times.
func several(size uint64, count int) []uint64 { return slices.Repeat([]uint64{size}, count) }

// sizesIn tells the sizes of blocks.
func sizesIn(list []api.Block) []uint64 {
	var sizes []uint64
	for _, b := range list {
		sizes = append(sizes, b.Size)
	}
	return sizes
}

// bytesIn tells L.
func bytesIn(list []api.Block) uint64 {
	sum := uint64(0)
	for _, b := range list {
		sum += b.Size
	}
	return sum
}

// shuffled tells a list in another order.
func shuffled[T any](list []T, row *numbers) []T {
	list = slices.Clone(list)
	for i := range list {
		j := i + row.below(len(list)-i)
		list[i], list[j] = list[j], list[i]
	}
	return list
}

func backward[T any](list []T) []T {
	list = slices.Clone(list)
	slices.Reverse(list)
	return list
}

// drawn tells some live blocks, rising.
func drawn(c api.Config, regions int, row *numbers) []api.Block {
	var list []api.Block
	for i := range regions {
		list = append(list, drawnIn(c.Base+uint64(i)*region(c), region(c), row)...)
	}
	return list
}

// drawnIn tells some within whole pages.
func drawnIn(p, size uint64, row *numbers) []api.Block {
	switch kind := row.below(12); {
	case kind < 2:
		return nil
	case kind < 4:
		return []api.Block{{P: p, Size: size}}
	case size > 4096:
		return append(drawnIn(p, size/2, row), drawnIn(p+size/2, size/2, row)...)
	}
	var list []api.Block
	small, share := uint64(16)<<row.below(8), row.below(5)
	for q := p; q < p+4096; q += small {
		if row.below(4) < share {
			list = append(list, api.Block{P: q, Size: small})
		}
	}
	return list
}

// drawnSizes tells some sizes of blocks, in any order.
func drawnSizes(c api.Config, most int, row *numbers) []uint64 {
	var list []uint64
	for range row.below(8) {
		list = append(list, several(16<<row.below(9+c.Order), 1+row.below(most))...)
	}
	return shuffled(list, row)
}

// roomy tells a list like list, in one with spare room behind, and a function that says whether all of it is as it was made.
func roomy[T comparable](list []T, spare ...T) ([]T, func() bool) {
	whole := slices.Concat(list, spare)
	ahead := slices.Clone(whole)
	return whole[:len(list)], func() bool { return slices.Equal(whole, ahead) }
}

func roomyBlocks(list []api.Block) ([]api.Block, func() bool) {
	return roomy(list, api.Block{P: 3, Size: 7}, api.Block{P: 5, Size: 9})
}

// sound asks Sound, and that it changes nothing of what it is handed (R4).
func sound(t *testing.T, c api.Config, regions int, live []api.Block) int {
	t.Helper()
	list, stays := roomyBlocks(live)
	number := oracle.Sound(c, regions, list)
	if !stays() {
		t.Fatal("Sound has changed the list")
	}
	return number
}

// noFit asks NoFit, and Stuck, which hangs on it; and that they change nothing.
func noFit(t *testing.T, c api.Config, regions int, live []api.Block, r uint64) bool {
	t.Helper()
	list, stays := roomyBlocks(live)
	fits := oracle.NoFit(c, regions, list, r)
	if oracle.Stuck(c, regions, list, r, true) != fits {
		t.Fatalf("Stuck(%v, %d, %v, %d, denied): not %v", c, regions, live, r, fits)
	}
	if oracle.Stuck(c, regions, list, r, false) != (fits && regions == c.Limit) {
		t.Fatalf("Stuck(%v, %d, %v, %d): not as NoFit, %v, and the regions say", c, regions, live, r, fits)
	}
	if !stays() {
		t.Fatal("NoFit or Stuck has changed the list")
	}
	return fits
}

// least asks Least, and that it changes nothing; without a true it tells 0.
func least(t *testing.T, c api.Config, stay []api.Block, sizes []uint64) (int, bool) {
	t.Helper()
	list, stays := roomyBlocks(stay)
	asked, stay2 := roomy(sizes, 3, 5)
	n, ok := oracle.Least(c, list, asked)
	if !stays() || !stay2() {
		t.Fatal("Least has changed a list")
	}
	if !ok && n != 0 {
		t.Fatalf("Least: %d, false", n)
	}
	return n, ok
}

func wantsSound(t *testing.T, c api.Config, regions int, live []api.Block, want int) {
	t.Helper()
	if got := sound(t, c, regions, live); got != want {
		t.Fatalf("Sound(%v, %d, %v): %d, not %d", c, regions, live, got, want)
	}
}

func wantsNoFit(t *testing.T, c api.Config, regions int, live []api.Block, r uint64, want bool) {
	t.Helper()
	if got := noFit(t, c, regions, live, r); got != want {
		t.Fatalf("NoFit(%v, %d, %v, %d): %v", c, regions, live, r, got)
	}
}

// wantsLeast asks for so many regions; -1: for a false.
func wantsLeast(t *testing.T, c api.Config, stay []api.Block, sizes []uint64, want int) {
	t.Helper()
	n, ok := least(t, c, stay, sizes)
	if ok != (want >= 0) || ok && n != want {
		t.Fatalf("Least(%v, %v, %v): %d, %v; not %d", c, stay, sizes, n, ok, want)
	}
}
