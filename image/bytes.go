package image

import (
	"croft/api"
	"croft/walk"
)

// Bytes tells an image's bytes.
func Bytes(im api.Image) ([]byte, api.Errno) {
	if e := formError(im); e != api.OK {
		return nil, e
	}
	c := im.Config
	pieces := [][]byte{
		sign(),
		numbers(1, c.Limit, c.Order),
		numbers(8, c.Base),
		numbers(1, im.Regions),
	}
	for _, page := range im.Pages {
		pieces = append(pieces, pageBytes(page))
	}
	for _, words := range im.Pairs {
		pieces = append(pieces, numbers(8, words...))
	}
	pieces = append(pieces, numbers(8, im.Heads...), numbers(2, im.Partial...), im.Mem)
	return joined(pieces...), api.OK
}

// formError tells what keeps an image from having bytes: each number of one that has its form, and its fields in range, fits in the bytes that are there for it.
func formError(im api.Image) api.Errno {
	switch rule, _ := walk.Check(im); rule {
	case configRule:
		return api.EINVAL
	case formRule, rangeRule:
		return api.EFORM
	}
	for _, page := range im.Partial {
		if !within(page, none, len(im.Pages)-1) {
			return api.EFORM
		}
	}
	return api.OK
}

// sign is what the bytes of every image begin with.
func sign() []byte { return []byte{67, 82, 70, 1} }

func pageBytes(page api.Page) []byte {
	return joined(
		numbers(1, page.Kind, page.Order, page.Class),
		numbers(2, page.Live, page.Next, page.Prev, page.First),
		numbers(8, page.Bits[:]...),
	)
}

// numbers tells each number as so many bytes, the lowest first. All bits of -1 are 1: so its bytes are the greatest number's.
func numbers[T int | uint64](size int, list ...T) []byte {
	var all []byte
	for _, v := range list {
		for i := range size {
			all = append(all, byte(v>>(8*i)))
		}
	}
	return all
}

// joined lays pieces one behind the other, in new memory.
func joined(pieces ...[]byte) []byte {
	var all []byte
	for _, piece := range pieces {
		all = append(all, piece...)
	}
	return all
}
