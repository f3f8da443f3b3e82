package image_test

import (
	"math"
	"slices"
	"testing"

	"croft/api"
	"croft/image"
)

// some is an image of two regions of eight pages with some of everything in it: on the partial lists stand, of class 0, the pages 0 and 7, of class 4 the pages 1 and 15; 6 is full; 3 and 8 to 11 are live blocks; free are 2 and 14, and two pages each at 4 and 12.
func some(t *testing.T) api.Image {
	t.Helper()
	c := api.Config{Base: 1 << 20, Limit: 3, Order: 3}
	at := func(number, offset int, size uint64) api.Block {
		return api.Block{P: c.Base + uint64(4096*number+offset), Size: size}
	}
	return lays(t, c, 2, []api.Block{
		at(0, 0, 16), at(0, 80, 16), at(1, 256, 256), at(3, 0, 4096), at(6, 0, 2048), at(6, 2048, 2048),
		at(7, 48, 16), at(7, 1024, 16), at(7, 4080, 16), at(8, 0, 16384), at(15, 0, 256), at(15, 3840, 256),
	}, [][]byte{{1}, {2, 2}})
}

// resized tells copies of a list: none, one longer, twice as long, one shorter; none of its own length.
func resized[T any](list []T) [][]T {
	var one T
	all := [][]T{nil, append(slices.Clone(list), one), slices.Concat(list, list, []T{one})}
	if len(list) == 0 {
		return all[1:]
	}
	return append(all, slices.Clone(list[:len(list)-1]))
}

// formless tells images like im in all but one length, or in the number of regions.
func formless(im api.Image) []api.Image {
	var list []api.Image
	wrong := im
	for _, wrong.Mem = range resized(im.Mem) {
		list = append(list, wrong)
	}
	wrong = im
	for _, wrong.Pages = range resized(im.Pages) {
		list = append(list, wrong)
	}
	wrong = im
	for _, wrong.Pairs = range resized(im.Pairs) {
		list = append(list, wrong)
	}
	for k := range im.Pairs {
		for _, words := range resized(im.Pairs[k]) {
			wrong.Pairs = slices.Clone(im.Pairs)
			wrong.Pairs[k] = words
			list = append(list, wrong)
		}
	}
	wrong = im
	for _, wrong.Heads = range resized(im.Heads) {
		list = append(list, wrong)
	}
	wrong = im
	for _, wrong.Partial = range resized(im.Partial) {
		list = append(list, wrong)
	}
	wrong = im
	for _, wrong.Regions = range []int{im.Regions - 1, im.Regions + 1, -1, im.Config.Limit + 1, 65, 256 + im.Regions, 1 << 52, math.MinInt, math.MaxInt} {
		list = append(list, wrong)
	}
	return list
}

// P10.1, P10.2, P10.4: of every Order, with no region, one, and all of Limit: each list in each wrong length, in Pairs the list of each order, and Regions; ahead of all else that is wrong but the Config.
func TestFormless(t *testing.T) {
	for order := range 9 {
		c := config(order, 1+16>>order)
		for _, regions := range []int{0, 1, c.Limit} {
			im := lays(t, c, regions, nil, nil)
			loads(t, im)
			told(t, im)
			for _, wrong := range formless(im) {
				refusesLoad(t, "a wrong length", wrong, api.EFORM)
				refusesBytes(t, "a wrong length", wrong, api.EFORM)
				if len(wrong.Pages) > 0 {
					wrong.Pages = slices.Clone(wrong.Pages)
					wrong.Pages[0].Kind = 5
				}
				refusesLoad(t, "a wrong length and a field", wrong, api.EFORM)
				refusesBytes(t, "a wrong length and a field", wrong, api.EFORM)
				wrong.Config.Base++
				refusesLoad(t, "a wrong length and Base", wrong, api.EINVAL)
				refusesBytes(t, "a wrong length and Base", wrong, api.EINVAL)
			}
		}
	}
}

// P10.1: more regions than Limit, and just as many.
func TestRegionsAndLimit(t *testing.T) {
	im := some(t)
	im.Config.Limit = 1
	refusesLoad(t, "two of one", im, api.EFORM)
	refusesBytes(t, "two of one", im, api.EFORM)
	im.Config.Limit = 2
	if p, e := loads(t, im).Malloc(32768, false); p != 0 || e != api.ENOMEM {
		t.Errorf("Malloc: %d, %v", p, e)
	}
	im.Config.Limit = 3
	if p, e := loads(t, im).Malloc(32768, false); p != 1<<20+65536 || e != api.OK {
		t.Errorf("Malloc: %d, %v", p, e)
	}
	told(t, im)
}

// P10.2, P10.4: Configs that may not be, whatever else is wrong; and those at the edge of what may be.
func TestConfigs(t *testing.T) {
	for _, c := range noConfigs() {
		im := some(t)
		im.Config = c
		refusesLoad(t, "a Config", im, api.EINVAL)
		refusesBytes(t, "a Config", im, api.EINVAL)
		im.Pages[3].Kind = -1
		im.Partial[0] = 99
		refusesLoad(t, "a Config, a field", im, api.EINVAL)
		refusesBytes(t, "a Config, a field", im, api.EINVAL)
		im = api.Image{Config: c, Regions: -1}
		refusesLoad(t, "a Config, no lists", im, api.EINVAL)
		refusesBytes(t, "a Config, no lists", im, api.EINVAL)
	}
	for _, c := range someConfigs() {
		im := lays(t, c, c.Limit, nil, nil)
		loads(t, im)
		wantsSame(t, "Parse of Bytes", parses(t, told(t, im)), im)
		refusesLoad(t, "a Config alone", api.Image{Config: c}, api.EFORM)
		refusesBytes(t, "a Config alone", api.Image{Config: c}, api.EFORM)
	}
}

// P10.2: for each rule of chapter 9 behind its first two an image that breaks it, and none ahead of it: it has its form, and Load tells EBROKEN. Those that are in range have bytes nevertheless.
func TestBroken(t *testing.T) {
	for _, one := range []struct {
		what    string
		inRange bool
		change  func(im *api.Image)
	}{
		{"rule 3", false, func(im *api.Image) { im.Pages[9].Next = 16 }},
		{"rule 4", true, func(im *api.Image) { im.Pages[10].Live = 1 }},
		{"rule 5", true, func(im *api.Image) { im.Pages[6].Live = 1 }},
		{"rule 6", true, func(im *api.Image) { im.Pages[3].Kind = api.PageFree }},
		{"rule 7", true, func(im *api.Image) { im.Pairs[2][0] = 1 }},
		{"rule 7, a bit of no pair", true, func(im *api.Image) { im.Pairs[2][0] = 1 << 63 }},
		{"rule 8", true, func(im *api.Image) { im.Heads[3] = math.MaxUint64 }},
		{"rule 8, a link", true, func(im *api.Image) { im.Mem[2*4096+8] = 1 }},
		{"rule 9", true, func(im *api.Image) { im.Pages[7].First = -1 }},
		{"rule 9, a link", true, func(im *api.Image) { im.Mem[16] = 1 }},
		{"rule 10", true, func(im *api.Image) { im.Partial[2] = 3 }},
		{"rule 10, Partial out of range", false, func(im *api.Image) { im.Partial[2] = 16 }},
		{"rule 11", true, func(im *api.Image) { im.Pages[6].Prev = 3 }},
	} {
		im := some(t)
		loads(t, im)
		one.change(&im)
		refusesLoad(t, one.what, im, api.EBROKEN)
		if !one.inRange {
			refusesBytes(t, one.what, im, api.EFORM)
			continue
		}
		wantsSame(t, one.what, parses(t, told(t, im)), im)
		refusesLoad(t, one.what, parses(t, told(t, im)), api.EBROKEN)
	}
}

// P10.2, P9.3: bytes of live blocks, and those of free ones behind their links, turn nothing.
func TestBytesThatTurnNothing(t *testing.T) {
	im := some(t)
	for _, i := range []int{3, 3 * 4096, 2*4096 + 16, 3*4096 - 1, 16 + 8, 31, 8 * 4096, 12*4096 - 1} {
		im.Mem[i] ^= 0xff
	}
	wantsSame(t, "Save of Load", image.Save(loads(t, im)), im)
}

// R1: images with lists that are nothing like what they should be.
func TestAnyLists(t *testing.T) {
	huge := api.Config{Base: math.MaxUint64, Limit: math.MaxInt, Order: math.MaxInt}
	for _, c := range []api.Config{{}, huge, example(), config(0, 1), config(8, 4)} {
		want := api.EFORM
		if c == (api.Config{}) || c == huge {
			want = api.EINVAL
		}
		for _, regions := range []int{math.MinInt, -1, 0, 1, 64, math.MaxInt} {
			im := api.Image{Config: c, Regions: regions}
			refusesLoad(t, "no lists", im, want)
			refusesBytes(t, "no lists", im, want)
			im.Mem, im.Pages = make([]byte, 4096), make([]api.Page, 1)
			refusesLoad(t, "a page", im, want)
			refusesBytes(t, "a page", im, want)
			im.Pairs, im.Heads, im.Partial = [][]uint64{nil, nil}, make([]uint64, 1), make([]int, 8)
			refusesLoad(t, "wrong lists", im, want)
			refusesBytes(t, "wrong lists", im, want)
		}
	}
}
