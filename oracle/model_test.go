package oracle_test

import (
	"math/big"
	"math/bits"
	"slices"

	"croft/api"
)

// mayBe is DOC.md's: may c be a Config?
func mayBe(c api.Config) bool {
	if c.Order < 0 || c.Order > 8 || c.Limit < 1 || c.Limit > 64 {
		return false
	}
	pages := 1
	for range c.Order {
		pages += pages
	}
	if c.Limit*pages > 1024 || c.Base == 0 || c.Base%region(c) != 0 {
		return false
	}
	end := new(big.Int).SetUint64(c.Base)
	end.Add(end, new(big.Int).SetUint64(uint64(c.Limit)*region(c)))
	return end.Cmp(new(big.Int).Lsh(big.NewInt(1), 63)) <= 0
}

// soundBy is P11.2 by its words: each block is held against all those ahead of it.
func soundBy(c api.Config, regions int, live []api.Block) int {
	if !mayBe(c) || regions < 0 || regions > c.Limit {
		return 0
	}
	for i, b := range live {
		if !isBlock(c, regions, b) {
			return i
		}
		for _, ahead := range live[:i] {
			if max(b.P, ahead.P) < min(b.P+b.Size, ahead.P+ahead.Size) {
				return i
			}
			if b.Size < 4096 && b.Size != ahead.Size && b.P/4096 == ahead.P/4096 {
				return i
			}
		}
	}
	return -1
}

func isBlock(c api.Config, regions int, b api.Block) bool {
	if !slices.Contains(sizesOf(c), b.Size) || b.P%b.Size != 0 || b.P > 1<<63 {
		return false
	}
	return c.Base <= b.P && b.P+b.Size <= c.Base+uint64(regions)*region(c)
}

// spread tells for each sixteen committed bytes the size of the live block that has them; 0: none.
func spread(c api.Config, regions int, live []api.Block) []uint64 {
	room := make([]uint64, uint64(regions)*region(c)/16)
	for _, b := range live {
		first := (b.P - c.Base) / 16
		for i := range b.Size / 16 {
			room[first+i] = b.Size
		}
	}
	return room
}

func free(size uint64) bool { return size == 0 }

func taken(size uint64) bool { return size != 0 }

// noFitBy is DOC.md's NoFit(r) by its words, of a sound list.
func noFitBy(c api.Config, regions int, live []api.Block, r uint64) bool {
	room := spread(c, regions, live)
	for stretch := range slices.Chunk(room, int(max(r, 4096)/16)) {
		if !slices.ContainsFunc(stretch, taken) {
			return false
		}
	}
	for page := range slices.Chunk(room, 256) {
		if r < 4096 && slices.Contains(page, r) && slices.ContainsFunc(page, free) {
			return false
		}
	}
	return true
}

// mayLie tells whether a block of a size may come where all of room is free, from first on: nothing but that size may be on a page with it.
func mayLie(room []uint64, first, size uint64) bool {
	if slices.ContainsFunc(room[first:first+size/16], taken) {
		return false
	}
	page := first / 256 * 256
	others := func(other uint64) bool { return other != 0 && other != size }
	return size >= 4096 || !slices.ContainsFunc(room[page:page+256], others)
}

// put lays a block there, or, with 0 as what it has, takes it away.
func put(room []uint64, first, size, has uint64) {
	for i := range size / 16 {
		room[first+i] = has
	}
}

// canLie tries all places for each of sizes, one after the other. Blocks of one size stand next to one another in the list, and are laid rising; failed keeps what was tried in vain.
func canLie(room, sizes []uint64, from uint64, failed map[string]int) bool {
	if len(sizes) == 0 {
		return true
	}
	key := stateOf(room, len(sizes), from)
	if failed[key] > 0 {
		return false
	}
	size := sizes[0]
	for first := from; first+size/16 <= uint64(len(room)); first += size / 16 {
		if !mayLie(room, first, size) {
			continue
		}
		next := uint64(0)
		if len(sizes) > 1 && sizes[1] == size {
			next = first
		}
		put(room, first, size, size)
		done := canLie(room, sizes[1:], next, failed)
		put(room, first, size, 0)
		if done {
			return true
		}
	}
	failed[key]++
	return false
}

// stateOf tells all that the further tries hang on.
func stateOf(room []uint64, left int, from uint64) string {
	state := []byte{byte(left), byte(from), byte(from >> 8)}
	for _, size := range room {
		state = append(state, byte(bits.Len64(size)))
	}
	return string(state)
}

// leastBy is P11.5 by its words, for few and great blocks: all places are tried in each number of regions; -1: there is none.
func leastBy(c api.Config, stay []api.Block, sizes []uint64) int {
	sizes = slices.Sorted(slices.Values(sizes))
	for n := range c.Limit + 1 {
		if soundBy(c, n, stay) != -1 {
			continue
		}
		if canLie(spread(c, n, stay), sizes, 0, map[string]int{}) {
			return n
		}
	}
	return -1
}

// laidIn lays blocks of sizes beside those that stay, the greatest first, each at the first place that may be, one on a page with blocks of its size ahead of others; it tells them all, and whether they found room.
func laidIn(c api.Config, n int, stay []api.Block, sizes []uint64) ([]api.Block, bool) {
	all, room := slices.Clone(stay), spread(c, n, stay)
	sizes = backward(slices.Sorted(slices.Values(sizes)))
	for i, size := range sizes {
		first, ok := placeIn(room, size)
		if !ok {
			return nil, false
		}
		put(room, first, size, size)
		all = append(all, api.Block{P: c.Base + 16*first, Size: sizes[i]})
	}
	return all, true
}

// placeIn tells the first place for a block, on a page with blocks of its size if there is one.
func placeIn(room []uint64, size uint64) (uint64, bool) {
	other, ok := uint64(0), false
	for first := uint64(0); first < uint64(len(room)); first += size / 16 {
		if !mayLie(room, first, size) {
			continue
		}
		page := first / 256 * 256
		if size >= 4096 || slices.Contains(room[page:page+256], size) {
			return first, true
		}
		if !ok {
			other, ok = first, true
		}
		first = page + 256 - size/16 // no other place on this page is better
	}
	return other, ok
}
