package image

import "croft/api"

// place is what is thrown where bytes are of no form.
type place int

// must throws the place, unless what is asked for there holds.
func must(holds bool, at int) {
	if !holds {
		panic(place(at))
	}
}

// placeOf tells the place by what was thrown, 0 where nothing was.
func placeOf(thrown any) int {
	at, _ := thrown.(place)
	return int(at)
}

// Parse tells the image of bytes; with an error the place.
func Parse(b []byte) (im api.Image, at int, e api.Errno) {
	defer func() { at = placeOf(recover()) }()
	e = api.EFORM // the answer, if a place is thrown
	r := reader{bytes: b}
	return r.image(), 0, api.OK
}

// reader takes parts off the front of bytes. It throws the place of the first one that is wrong, or where the bytes end too early.
type reader struct {
	bytes []byte
	at    int // where the next part begins
}

// part gives the next n bytes where they stand. It ends in its room too: whoever appends to it does not reach the parts behind.
func (r *reader) part(n int) []byte {
	from, end := r.at, r.at+n
	must(end <= len(r.bytes), len(r.bytes))
	r.at = end
	return r.bytes[from:end:end]
}

// word reads a number, the lowest byte first.
func (r *reader) word(size int) uint64 {
	v := uint64(0)
	for i, b := range r.part(size) {
		v |= uint64(b) << (8 * i)
	}
	return v
}

// number reads one that is from least to greatest; the greatest of so many bytes is -1.
func (r *reader) number(size, least, greatest int) int {
	from := r.at
	v := int(r.word(size))
	if v == 1<<(8*size)-1 {
		v = -1
	}
	must(within(v, least, greatest), from)
	return v
}

func (r *reader) image() api.Image {
	for _, b := range sign() {
		r.number(1, int(b), int(b))
	}
	c := r.config()
	im := api.Image{Config: c, Regions: r.number(1, 0, c.Limit)}
	pages := im.Regions << c.Order
	for range pages {
		im.Pages = append(im.Pages, r.page(c.Order, pages-1))
	}
	for order := range c.Order {
		im.Pairs = append(im.Pairs, r.words(pairWords(pages, order)))
	}
	im.Heads = r.words(c.Order + 1)
	for range api.Classes {
		im.Partial = append(im.Partial, r.number(2, none, pages-1))
	}
	im.Mem = joined(r.part(pages * api.PageSize))
	must(r.at == len(r.bytes), r.at)
	return im
}

func (r *reader) config() api.Config {
	c := api.Config{Limit: r.number(1, 1, api.MaxRegions)}
	from := r.at
	c.Order = r.number(1, 0, api.MaxOrder)
	must(c.Limit<<c.Order <= api.MaxPages, from)
	from = r.at
	c.Base = r.word(8)
	must(mayBe(c), from)
	return c
}

// page reads one of an image whose greatest order and last page are given.
func (r *reader) page(order, last int) api.Page {
	page := api.Page{
		Kind:  r.number(1, api.PageFree, api.PageSlab),
		Order: r.number(1, 0, order),
		Class: r.number(1, 0, api.Classes-1),
		Live:  r.number(2, 0, maxCells),
		Next:  r.number(2, none, last),
		Prev:  r.number(2, none, last),
		First: r.number(2, none, maxCells-1),
	}
	copy(page.Bits[:], r.words(len(page.Bits)))
	return page
}

func (r *reader) words(n int) []uint64 {
	list := make([]uint64, n)
	for i := range list {
		list[i] = r.word(8)
	}
	return list
}
