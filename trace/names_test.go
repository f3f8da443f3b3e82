package trace_test

import (
	"strings"
	"testing"

	"croft/api"
)

// P17.4: a name that refers to another one from now on: what it referred to goes, if nothing else leads there.
func TestRootAnother(t *testing.T) {
	s, _ := begin(t, example())
	list := makesMany(t, s, 4, 1, 0)
	for _, p := range list {
		roots(t, s, "a", p)
	}
	roots(t, s, "b", list[1])
	wantsSwept(t, s, 2, 32)
	wantsObjects(t, s, list[1], list[3])
	roots(t, s, "a", list[3])
	roots(t, s, "a", list[1])
	wantsSwept(t, s, 1, 16)
	wantsObjects(t, s, list[1])
}

// P17.4: any text is a name, the empty one too, and none is another.
func TestAnyText(t *testing.T) {
	names := []string{"", " ", "a", "A", "a ", "a\x00", "\x00", "\x00\x00", "\xff", "\xfe", "\xff\xff", "\u00e4", "a\u0308", "\ufffd", strings.Repeat("a", 1<<16), strings.Repeat("a", 1<<16-1)}
	s, _ := begin(t, example())
	list := makesMany(t, s, len(names)+1, 0, 1)
	for i, name := range names {
		wantsError(t, "Unroot", s.Unroot(name), api.EINVAL)
		roots(t, s, name, list[i])
	}
	wantsSwept(t, s, 1, 16)
	left := list[:len(names)]
	for _, name := range names {
		wantsObjects(t, s, left...)
		unroots(t, s, name)
		wantsError(t, "Unroot", s.Unroot(name), api.EINVAL)
		wantsObjects(t, s, left...)
		wantsSwept(t, s, 1, 16)
		left = left[1:]
	}
	wantsObjects(t, s)
}

// P17.4: two names of one object: it is kept till both refer to it no more.
func TestTwoNames(t *testing.T) {
	s, _ := begin(t, example())
	p := makes(t, s, 0, 0)
	roots(t, s, "a", p)
	roots(t, s, "b", p)
	roots(t, s, "b", p)
	unroots(t, s, "a")
	wantsSwept(t, s, 0, 0)
	wantsError(t, "Unroot", s.Unroot("a"), api.EINVAL)
	unroots(t, s, "b")
	wantsObjects(t, s, p)
	wantsSwept(t, s, 1, 16)
}

// P17.4: Unroot of a name that never referred, twice, and of one that refers again.
func TestUnrootTwice(t *testing.T) {
	s, h := begin(t, example())
	p := makes(t, s, 0, 0)
	for range 3 {
		unchanged(t, "Unroot", s, h, func() {
			wantsError(t, "Unroot", s.Unroot("a"), api.EINVAL)
			wantsError(t, "Unroot", s.Unroot(""), api.EINVAL)
			roots(t, s, "a", p)
			wantsError(t, "Unroot", s.Unroot("b"), api.EINVAL)
			unroots(t, s, "a")
			wantsError(t, "Unroot", s.Unroot("a"), api.EINVAL)
		})
	}
	wantsSwept(t, s, 1, 16)
}

// P17.4, R3: a Root that is refused leaves the name to what it referred, and makes no name.
func TestRootRefused(t *testing.T) {
	s, h := begin(t, example())
	list := makesMany(t, s, 2, 1, 8)
	gone := makes(t, s, 0, 0)
	roots(t, s, "a", list[0])
	roots(t, s, "b", list[1])
	s.Collect()
	for _, p := range append(noObjects(list...), gone) {
		unchanged(t, "Root", s, h, func() {
			wantsError(t, "Root", s.Root("a", p), api.EINVAL)
			wantsError(t, "Root", s.Root("c", p), api.EINVAL)
			wantsError(t, "Unroot", s.Unroot("c"), api.EINVAL)
		})
	}
	wantsSwept(t, s, 0, 0)
	wantsObjects(t, s, list...)
}

// P17.4: an object that a name keeps may be made anew nowhere: the name refers to it behind any number of collections.
func TestNameKeeps(t *testing.T) {
	s, _ := begin(t, config(1, 2))
	p := makes(t, s, 1, 30)
	writes(t, s, p, 0, []byte("kept for as long as it is named"[:30]))
	roots(t, s, "", p)
	for range 5 {
		makesMany(t, s, 10, 2, 20)
		wantsSwept(t, s, 10, 640)
		wantsObjects(t, s, p)
		wantsBytes(t, s, p, 0, []byte("kept for as long as it is named"[:30]))
	}
}
