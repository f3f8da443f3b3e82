package image_test

import (
	"encoding/binary"
	"math/big"
	"slices"

	"croft/api"
)

// flat is P10.4's table, part by part.
func flat(im api.Image) []byte {
	two, eight := binary.LittleEndian.AppendUint16, binary.LittleEndian.AppendUint64
	b := []byte{'C', 'R', 'F', 1, byte(im.Config.Limit), byte(im.Config.Order)}
	b = eight(b, im.Config.Base)
	b = append(b, byte(im.Regions))
	for _, is := range im.Pages {
		b = append(b, byte(is.Kind), byte(is.Order), byte(is.Class))
		b = two(two(two(two(b, uint16(is.Live)), uint16(is.Next)), uint16(is.Prev)), uint16(is.First))
		b = eight(eight(eight(eight(b, is.Bits[0]), is.Bits[1]), is.Bits[2]), is.Bits[3])
	}
	for _, words := range im.Pairs {
		for _, word := range words {
			b = eight(b, word)
		}
	}
	for _, head := range im.Heads {
		b = eight(b, head)
	}
	for _, head := range im.Partial {
		b = two(b, uint16(head))
	}
	return append(b, im.Mem...)
}

// cut is a part of the bytes: how many it has, and, if not all numbers will do, the ends of its range.
type cut struct {
	size            int
	ranged          bool
	least, greatest int
}

// behindRegions tells the parts behind Regions.
func behindRegions(c api.Config, regions int) []cut {
	pages := regions * regionPages(c)
	word := cut{size: 8}
	link := cut{2, true, -1, pages - 1}
	is := []cut{{1, true, 0, 4}, {1, true, 0, c.Order}, {1, true, 0, 7}, {2, true, 0, 256}, link, link, {2, true, -1, 255}, word, word, word, word}
	list := slices.Repeat(is, pages)
	for pairs, k := pages/2, 0; k < c.Order; pairs, k = pairs/2, k+1 {
		list = append(list, slices.Repeat([]cut{word}, (pairs+63)/64)...)
	}
	list = append(list, slices.Repeat([]cut{word}, c.Order+1)...)
	list = append(list, slices.Repeat([]cut{link}, 8)...)
	return append(list, cut{size: 4096 * pages})
}

// wrongAt is P10.5's place, by its words; -1, if b are the bytes of an image.
func wrongAt(b []byte) int {
	at := 0
	for _, sign := range []int{67, 82, 70, 1} {
		if !right(b, at, cut{1, true, sign, sign}) {
			return at // and where no byte is there, as many are
		}
		at++
	}
	if !right(b, 4, cut{1, true, 1, 64}) {
		return 4
	}
	greatest := 8
	for int(b[4])<<greatest > 1024 {
		greatest--
	}
	if !right(b, 5, cut{1, true, 0, greatest}) {
		return 5
	}
	c := api.Config{Limit: int(b[4]), Order: int(b[5])}
	if len(b) < 14 {
		return len(b)
	}
	c.Base = binary.LittleEndian.Uint64(b[6:])
	if !baseMayBe(c) {
		return 6
	}
	if !right(b, 14, cut{1, true, 0, c.Limit}) {
		return 14
	}
	at = 15
	for _, next := range behindRegions(c, int(b[14])) {
		if len(b) < at+next.size {
			return len(b)
		}
		if !right(b, at, next) {
			return at
		}
		at += next.size
	}
	if at < len(b) {
		return at
	}
	return -1
}

// right tells whether a part is there and in its range.
func right(b []byte, at int, is cut) bool {
	if len(b) < at+is.size {
		return false
	}
	v := 0
	for i := range is.size {
		if is.ranged {
			v += int(b[at+i]) << (8 * i)
		}
	}
	if v == 1<<(8*is.size)-1 {
		v = -1
	}
	return !is.ranged || is.least <= v && v <= is.greatest
}

// baseMayBe reckons without a type's end.
func baseMayBe(c api.Config) bool {
	r := big.NewInt(int64(4096 * regionPages(c)))
	base := new(big.Int).SetUint64(c.Base)
	end := new(big.Int).Add(base, new(big.Int).Mul(r, big.NewInt(int64(c.Limit))))
	return base.Sign() > 0 && new(big.Int).Mod(base, r).Sign() == 0 && end.Cmp(new(big.Int).Lsh(big.NewInt(1), 63)) <= 0
}

// ranged tells an image that has its form, all fields of it somewhere in their ranges, often at an end: most often it is not sound.
func ranged(c api.Config, regions int, row *numbers) api.Image {
	pages := regions * regionPages(c)
	im := api.Image{Config: c, Regions: regions, Mem: row.bytes(4096 * pages)}
	for range pages {
		im.Pages = append(im.Pages, api.Page{
			Kind: from(0, 4, row), Order: from(0, c.Order, row), Class: from(0, 7, row), Live: from(0, 256, row),
			Next: from(-1, pages-1, row), Prev: from(-1, pages-1, row), First: from(-1, 255, row),
			Bits: [4]uint64{row.word(), row.word(), row.word(), row.word()},
		})
	}
	for pairs, k := pages/2, 0; k < c.Order; pairs, k = pairs/2, k+1 {
		im.Pairs = append(im.Pairs, words((pairs+63)/64, row))
	}
	im.Heads = words(c.Order+1, row)
	for range 8 {
		im.Partial = append(im.Partial, from(-1, pages-1, row))
	}
	return im
}

// from tells a number from least to greatest, at an end as often as not.
func from(least, greatest int, row *numbers) int {
	switch row.below(4) {
	case 0:
		return least
	case 1:
		return greatest
	}
	return least + row.below(greatest-least+1)
}

func words(n int, row *numbers) []uint64 {
	var list []uint64
	for range n {
		list = append(list, row.word())
	}
	return list
}
