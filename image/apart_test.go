package image_test

import (
	"bytes"
	"reflect"
	"slices"
	"sync"
	"testing"

	"croft/api"
	"croft/image"
)

// span is where a list lies, spare room too.
type span struct{ from, to uintptr }

// spanOf tells none of a list without room.
func spanOf[T any](list []T) []span {
	if cap(list) == 0 {
		return nil
	}
	is := reflect.ValueOf(list)
	return []span{{is.Pointer(), is.Pointer() + uintptr(cap(list))*is.Type().Elem().Size()}}
}

// spansOf tells those of all lists of an image.
func spansOf(im api.Image) []span {
	all := slices.Concat(spanOf(im.Mem), spanOf(im.Pages), spanOf(im.Pairs), spanOf(im.Heads), spanOf(im.Partial))
	for _, words := range im.Pairs {
		all = append(all, spanOf(words)...)
	}
	return all
}

// wantsApart asks that no two of these share a byte.
func wantsApart(t *testing.T, what string, spans ...[]span) {
	t.Helper()
	all := slices.Concat(spans...)
	for i, one := range all {
		for _, other := range all[:i] {
			if one.from < other.to && other.from < one.to {
				t.Fatalf("%s: two lists share memory", what)
			}
		}
	}
}

// P10.7, R4: of what Parse is handed, and what it answers, twice, no two lists share memory; what is done to one is not seen in another.
func TestParsedApart(t *testing.T) {
	for order := range 9 {
		row := numbers(order)
		c := config(order, 2)
		for regions := range c.Limit + 1 {
			b := flat(ranged(c, regions, &row))
			ahead := slices.Clone(b)
			one, _, _ := image.Parse(b)
			other, _, _ := image.Parse(b)
			wantsApart(t, "Parse", spanOf(b), spansOf(one), spansOf(other))
			want := copied(other)
			overwrite(one)
			if !bytes.Equal(b, ahead) {
				t.Fatal("the bytes have changed")
			}
			for i := range b {
				b[i] ^= 0xff
			}
			wantsSame(t, "the other image", other, want)
		}
	}
}

// P10.7, R4: the same of Bytes.
func TestBytesApart(t *testing.T) {
	for order := range 9 {
		row := numbers(order)
		c := config(order, 2)
		for regions := range c.Limit + 1 {
			im := ranged(c, regions, &row)
			ahead := copied(im)
			one, _ := image.Bytes(im)
			other, _ := image.Bytes(im)
			wantsApart(t, "Bytes", spanOf(one), spanOf(other), spansOf(im))
			want := slices.Clone(other)
			one = one[:cap(one)]
			for i := range one {
				one[i] ^= 0xff
			}
			wantsSame(t, "the image", im, ahead)
			overwrite(im)
			if !bytes.Equal(other, want) {
				t.Fatal("the other bytes have changed")
			}
		}
	}
}

// P10.7, R4: the same of Lay.
func TestLaidApart(t *testing.T) {
	for seed := range 36 {
		row := numbers(seed)
		c := config(seed%9, 3)
		regions := row.below(c.Limit + 1)
		blocks := drawn(c, regions, &row)
		contents := drawnContents(blocks, &row)
		one, _ := image.Lay(c, regions, blocks, contents)
		other, _ := image.Lay(c, regions, blocks, contents)
		spans := slices.Concat(spanOf(blocks), spanOf(contents))
		for _, content := range contents {
			spans = append(spans, spanOf(content)...)
		}
		if len(spans) < 200 {
			wantsApart(t, "Lay", spans, spansOf(one), spansOf(other))
		}
		want := copied(other)
		list, held := slices.Clone(blocks), make([][]byte, len(contents))
		for i, content := range contents {
			held[i] = slices.Clone(content)
		}
		overwrite(one)
		if !slices.Equal(blocks, list) || !slices.EqualFunc(contents, held, bytes.Equal) {
			t.Fatal("what was handed in has changed")
		}
		clear(blocks)
		for _, content := range contents {
			for i := range content {
				content[i] ^= 0xff
			}
		}
		wantsSame(t, "the other image", other, want)
	}
}

// P10.7, R4, P10.2: the same of Save and Load.
func TestSavedApart(t *testing.T) {
	for seed := range 18 {
		row := numbers(seed)
		h := newHeap(t, config(seed%9, 3))
		for range 60 {
			anyCall(h, &row)
		}
		one, other := image.Save(h), image.Save(h)
		wantsApart(t, "Save", spansOf(one), spansOf(other))
		want := copied(other)
		twin, e := image.Load(one)
		if e != api.OK {
			t.Fatal(e)
		}
		overwrite(one)
		wantsSame(t, "the heap that was saved", image.Save(h), want)
		wantsSame(t, "the heap that was loaded", image.Save(twin), want)
		for range 60 {
			anyCall(twin, &row)
			anyCall(h, &row)
		}
		wantsSame(t, "the other image", other, want)
	}
}

// R4: nil and an empty list are one.
func TestNilAndEmpty(t *testing.T) {
	c := config(0, 1)
	want := lays(t, c, 0, nil, nil)
	empty := api.Image{Config: c, Mem: []byte{}, Pages: []api.Page{}, Pairs: [][]uint64{}, Heads: []uint64{0}, Partial: noPartial()}
	none := api.Image{Config: c, Heads: []uint64{0}, Partial: noPartial()}
	for _, im := range []api.Image{empty, none} {
		if b, e := image.Bytes(im); e != api.OK || !bytes.Equal(b, flat(want)) {
			t.Errorf("Bytes: %v, %v", b, e)
		}
		if h, e := image.Load(im); e != api.OK || !same(image.Save(h), want) {
			t.Errorf("Load: %v", e)
		}
	}
	if im, e := image.Lay(c, 0, []api.Block{}, [][]byte{}); e != api.OK || !same(im, want) {
		t.Errorf("Lay: %v", e)
	}
	block := []api.Block{{P: c.Base, Size: 64}}
	one, two, three := lays(t, c, 1, block, nil), lays(t, c, 1, block, [][]byte{nil}), lays(t, c, 1, block, [][]byte{{}})
	if !same(one, two) || !same(two, three) {
		t.Error("Lay: contents that are nil and empty")
	}
	if _, at, e := image.Parse([]byte{}); at != 0 || e != api.EFORM {
		t.Errorf("Parse: %d, %v", at, e)
	}
}

// R5: an answer hangs on what is handed in alone: not on what was asked ahead.
func TestNothingKept(t *testing.T) {
	im := some(t)
	b := told(t, im)
	for range 2 {
		refusesParse(t, "short", b[:len(b)-1], len(b)-1)
		wantsSame(t, "Parse", parses(t, b), im)
		wrong := copied(im)
		wrong.Partial[0] = 16
		refusesBytes(t, "out of range", wrong, api.EFORM)
		refusesLoad(t, "not sound", wrong, api.EBROKEN)
		if !bytes.Equal(told(t, im), b) {
			t.Error("Bytes: other bytes")
		}
		refusesLay(t, "one twice", example(), 1, []api.Block{{P: 65536, Size: 16}, {P: 65536, Size: 16}}, nil)
		wantsSame(t, "Lay", some(t), im)
		wantsSame(t, "Load", image.Save(loads(t, im)), im)
	}
}

// P10.7, R5: what is handed in may be handed in from several goroutines: it is only read.
func TestTogether(t *testing.T) {
	row := numbers(7)
	c := config(3, 3)
	blocks := drawn(c, 3, &row)
	contents := drawnContents(blocks, &row)
	want := laid(c, 3, blocks, contents)
	b := flat(want)
	var all sync.WaitGroup
	for range 8 {
		all.Go(func() {
			for range 10 {
				if im, e := image.Lay(c, 3, blocks, contents); e != api.OK || !same(im, want) {
					t.Errorf("Lay: %v", e)
				}
				if got, e := image.Bytes(want); e != api.OK || !bytes.Equal(got, b) {
					t.Errorf("Bytes: %v", e)
				}
				if im, at, e := image.Parse(b); at != 0 || e != api.OK || !same(im, want) {
					t.Errorf("Parse: %d, %v", at, e)
				}
				if h, e := image.Load(want); e != api.OK || !same(image.Save(h), want) {
					t.Errorf("Load: %v", e)
				}
			}
		})
	}
	all.Wait()
}
