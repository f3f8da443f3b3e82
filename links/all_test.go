package links_test

import (
	"iter"
	"math/rand"
	"slices"
	"testing"

	"croft/api"
	"croft/links"
	"croft/mem"
)

// TestEachBeginsAnew: All is asked once, and each range begins at the head as it is when the range begins (P3.5).
func TestEachBeginsAnew(t *testing.T) {
	s := newSpace(t, page, 1)
	l := links.New(s, 0)
	seq := l.All()
	if got := slices.Collect(seq); len(got) != 0 {
		t.Fatalf("All of an empty list: %v", got)
	}
	var list []uint64
	for _, p := range []uint64{4096, 5001, 8176} {
		want(t, "Push", l.Push(p), api.OK)
		list = slices.Insert(list, 0, p)
		for range 2 {
			if got := slices.Collect(seq); !slices.Equal(got, list) {
				t.Fatalf("All: %v, not %v", got, list)
			}
		}
	}
	want(t, "Remove", l.Remove(5001), api.OK)
	if got := slices.Collect(seq); !slices.Equal(got, []uint64{8176, 4096}) {
		t.Fatalf("All behind Remove: %v", got)
	}
}

// TestLeft: a range that is left at any place gives nothing more, and leaves all as it was (P3.5).
func TestLeft(t *testing.T) {
	list := []uint64{4096, 4500, 4112, 8176, 6000}
	x := laid(t, list)
	for stop := range list {
		got := x.all(func(_ uint64, i int) bool { return i < stop })
		if !slices.Equal(got, list[:stop+1]) {
			t.Fatalf("left at %d: %v", stop, got)
		}
		wantList(t, x, list...)
	}
	calls := 0
	x.l.All()(func(uint64) bool { calls++; return false })
	if calls != 1 {
		t.Fatalf("left at once: %d calls", calls)
	}
}

// TestNested: two ranges at once, of one list and of one answer of All, know nothing of one another (P3.5).
func TestNested(t *testing.T) {
	list := []uint64{4096, 4500, 4112}
	x := laid(t, list)
	seq := x.l.All()
	var got []uint64
	for p := range seq {
		got = append(got, p)
		for q := range seq {
			got = append(got, q)
			if q == p {
				break
			}
		}
	}
	if !slices.Equal(got, []uint64{4096, 4096, 4500, 4096, 4500, 4112, 4096, 4500, 4112}) {
		t.Fatalf("one range in another: %v", got)
	}
	next, stop := iter.Pull(seq)
	other, end := iter.Pull(x.l.All())
	defer stop()
	defer end()
	for _, p := range list {
		a, ok := next()
		b, too := other()
		if a != p || b != p || !ok || !too {
			t.Fatalf("side by side: %d, %d, not %d", a, b, p)
		}
	}
	if _, ok := next(); ok {
		t.Fatalf("the one does not end")
	}
	if _, ok := other(); ok {
		t.Fatalf("the other does not end")
	}
}

// TestReadAhead: the next of an address is read before the address is given, its prev when its turn comes (P3.5).
func TestReadAhead(t *testing.T) {
	list := []uint64{4096, 4112, 4128, 4144}
	x := laid(t, list)
	got := x.all(func(p uint64, i int) bool {
		x.setWord(p, 5) // too late for this range
		return true
	})
	if !slices.Equal(got, list) {
		t.Fatalf("a next that is written over when its address is given: %v", got)
	}
	x = laid(t, list)
	got = x.all(func(p uint64, i int) bool {
		if i == 1 {
			x.setWord(4136, 5) // prev of 4128
		}
		return true
	})
	if !slices.Equal(got, list[:2]) {
		t.Fatalf("a prev that is written over ahead of its turn: %v", got)
	}
	x = laid(t, list)
	got = x.all(func(p uint64, i int) bool {
		x.setWord(p+8, 5) // its turn is over
		return true
	})
	if !slices.Equal(got, list) {
		t.Fatalf("a prev that is written over behind its turn: %v", got)
	}
	x = laid(t, list)
	got = x.all(func(p uint64, i int) bool {
		if i == 0 {
			x.setWord(4112, 5000) // next of the one in hand
			x.setLinks(5000, 0, 4112)
		}
		return true
	})
	if !slices.Equal(got, []uint64{4096, 4112, 5000}) {
		t.Fatalf("a next that is written over ahead of its turn: %v", got)
	}
}

// TestChangesInRange: the list is changed by its own calls while it is ranged over (P3.5).
func TestChangesInRange(t *testing.T) {
	list := []uint64{4096, 4112, 4128, 4144}
	x := laid(t, list)
	got := x.all(func(p uint64, _ int) bool { return x.remove(p) == api.OK })
	if !slices.Equal(got, []uint64{4096}) { // prev of 4112 has become 0
		t.Fatalf("each one taken off: %v", got)
	}
	x = laid(t, list)
	got = x.all(func(p uint64, _ int) bool { return x.push(p+4000) == api.OK })
	if !slices.Equal(got, list) {
		t.Fatalf("others pushed: %v", got)
	}
	x = laid(t, list)
	got = x.all(func(p uint64, i int) bool { return i > 0 || x.remove(4128) == api.OK })
	if !slices.Equal(got, []uint64{4096, 4112, 4144}) {
		t.Fatalf("one ahead taken off: %v", got)
	}
	x = laid(t, list)
	got = x.all(func(p uint64, i int) bool { return i > 0 || x.remove(4112) == api.OK })
	if !slices.Equal(got, []uint64{4096, 4112}) { // 4112 was in hand; prev of 4128 is 4096 now
		t.Fatalf("the one in hand taken off: %v", got)
	}
	x = laid(t, list)
	got = x.all(func(p uint64, _ int) bool { x.remove(p); x.push(p); return true })
	if !slices.Equal(got, list[:2]) { // 4112 has gone ahead of 4096, and prev of 4128 is 4096
		t.Fatalf("each one taken off and pushed: %v", got)
	}
}

// TestRegionsInRange: regions come and go while the list is ranged over (P3.5, P3.8).
func TestRegionsInRange(t *testing.T) {
	lay := func(regions int) *pairOf {
		x := newPair(t, two, regions, 0)
		for _, p := range []uint64{4096, 8192 - 8, 4112} {
			if regions == 1 && p == 8184 {
				p = 5000
			}
			want(t, "Push", x.push(p), api.OK)
		}
		return x
	}
	x := lay(2)
	got := x.all(func(_ uint64, i int) bool {
		if i == 0 {
			x.decommit()
		}
		return true
	})
	if !slices.Equal(got, []uint64{4112}) { // of 8184 eight bytes are gone
		t.Fatalf("a region goes: %v", got)
	}
	x = lay(2)
	got = x.all(func(_ uint64, i int) bool {
		if i == 0 {
			x.decommit()
			x.decommit()
		}
		return true
	})
	if !slices.Equal(got, []uint64{4112}) || x.s.Regions() != 0 {
		t.Fatalf("all regions go: %v", got)
	}
	x = lay(1)
	x.setWord(4096, 8192) // not there yet
	got = x.all(func(p uint64, _ int) bool {
		if p == 4096 {
			x.commit()
			x.setWord(8200, 4096)
		}
		return true
	})
	if !slices.Equal(got, []uint64{4112, 5000, 4096, 8192}) {
		t.Fatalf("a region comes: %v", got)
	}
}

// TestRings: a list that goes in a ring ends where it comes back, by itself (P3.5, P3.8).
func TestRings(t *testing.T) {
	list := []uint64{4096, 4112, 4128, 4144}
	for last := range list {
		for back := 0; back <= last; back++ {
			x := laid(t, list)
			x.setWord(list[last], list[back])
			if got := x.list(); !slices.Equal(got, list[:last+1]) {
				t.Fatalf("a ring from %d to %d: %v", last, back, got)
			}
			x.setWord(list[back]+8, list[last])
			if got := x.list(); !slices.Equal(got, list[:back]) {
				t.Fatalf("a whole ring from %d to %d: %v", last, back, got)
			}
		}
	}
}

// most is how many addresses a range gives of a ring that whoever ranges closes again and again: the head leads to itself, its prev is 0 at first and then itself.
func most(t *testing.T, c api.Config, regions int) int {
	t.Helper()
	s := newSpace(t, c, regions)
	p := c.Base + 48
	want(t, "SetWord", s.SetWord(p, p), api.OK)
	l := links.New(s, p)
	given := 0
	for q := range l.All() {
		if q != p || given > api.MaxPages*api.PageSize {
			t.Fatalf("All: %d, behind %d others", q, given)
		}
		want(t, "SetWord", s.SetWord(p+8, p), api.OK)
		given++
	}
	return given
}

// TestMost: at most a sixteenth of the committed bytes is given, whatever the Config and the number of regions (P3.5, P3.8).
func TestMost(t *testing.T) {
	for order := 0; order <= api.MaxOrder; order++ {
		size := uint64(api.PageSize) << order
		limit := min(api.MaxRegions, api.MaxPages>>order)
		bases := []uint64{size, 3 * size, 256 << 20, 1<<63 - uint64(limit)*size}
		for i, base := range bases {
			c := api.Config{Base: base, Limit: limit, Order: order}
			counts := []int{1, 2, 3, limit/2 + 1, limit}
			if i > 0 {
				counts = counts[:3]
			}
			for _, regions := range counts {
				if got := most(t, c, min(regions, limit)); uint64(got)*16 != uint64(min(regions, limit))*size {
					t.Fatalf("%+v with %d regions: %d are given", c, regions, got)
				}
			}
		}
	}
}

// TestMostIsSettledAtFirst: regions that come or go in the range neither raise nor lower how many are given at most; the next range has its own number (P3.5).
func TestMostIsSettledAtFirst(t *testing.T) {
	c := api.Config{Base: 65536, Limit: 3, Order: 1}
	s := newSpace(t, c, 1)
	want(t, "SetWord", s.SetWord(65536, 65536), api.OK)
	l := links.New(s, 65536)
	seq := l.All()
	for _, change := range []struct{ regions, then, given int }{{1, 3, 512}, {3, 1, 1536}, {1, 1, 512}, {2, 3, 1024}, {3, 2, 1536}} {
		toRegions(t, s, change.regions)
		want(t, "SetWord", s.SetWord(65544, 0), api.OK)
		given := 0
		for range seq {
			want(t, "SetWord", s.SetWord(65544, 65536), api.OK)
			if given == 1 {
				toRegions(t, s, change.then)
			}
			given++
		}
		if given != change.given {
			t.Fatalf("%+v: %d are given", change, given)
		}
	}
}

// toRegions brings the number of regions to n.
func toRegions(t *testing.T, s *mem.Space, n int) {
	t.Helper()
	for s.Regions() > n {
		want(t, "Decommit", s.Decommit(1), api.OK)
	}
	for s.Regions() < n {
		_, e := s.Commit(false)
		want(t, "Commit", e, api.OK)
	}
}

// TestMostAtRest: links that overlap make a list longer than a sixteenth of the bytes, with nothing done in the range: two runs go down by turns, the next of the one being the prev of the one behind (P3.5).
func TestMostAtRest(t *testing.T) {
	for regions := 1; regions <= 2; regions++ {
		x := newPair(t, two, regions, 0)
		words := uint64(regions) * 512
		upper, lower := 4096+8*(words-2), 4096+8*(words/2-2)
		x.m.head = upper
		x.l = links.New(x.s, upper)
		x.setWord(upper+8, 0)
		x.setWord(lower+8, upper)
		for lower >= 4096 {
			x.setWord(upper, lower)
			x.setWord(lower, upper-8)
			upper, lower = upper-8, lower-8
		}
		if got := x.list(); len(got) != regions*256 {
			t.Fatalf("%d words in a list at rest: %d are given", words, len(got))
		}
	}
}

// TestNoneGiven: nothing is given of a space without a region, nor of one whose regions have gone (P3.5).
func TestNoneGiven(t *testing.T) {
	for _, head := range []uint64{0, 1, 4096, 8176} {
		x := newPair(t, two, 0, head)
		if got := x.list(); len(got) != 0 {
			t.Fatalf("All without a region: %v", got)
		}
		x.commit()
		x.decommit()
		if got := x.list(); len(got) != 0 {
			t.Fatalf("All where a region was: %v", got)
		}
	}
}

// act does one thing by chance, on the list and on its model.
func act(x *pairOf, r *rand.Rand, pool []uint64) {
	p, q := pool[r.Intn(len(pool))], pool[r.Intn(len(pool))]
	switch r.Intn(12) {
	case 0, 1, 2, 3:
		x.push(p)
	case 4, 5:
		x.remove(p)
	case 6:
		x.pop()
	case 7:
		x.remove(x.l.Head())
	case 8, 9:
		if x.m.there(p) {
			x.setWord(p+8*uint64(r.Intn(2)), q)
		}
	case 10:
		if r.Intn(20) == 0 && x.s.Regions() < 2 {
			x.commit()
		} else if r.Intn(40) == 0 && x.s.Regions() > 0 {
			x.decommit()
		}
	case 11:
		x.l = links.New(x.s, p)
		x.m.head = p
	}
}

// TestByChance: calls, spoilt words, regions that come and go, and ranges in which all that is done, on few addresses of which many overlap (P3.1 to P3.6, P3.8).
func TestByChance(t *testing.T) {
	r := rand.New(rand.NewSource(33))
	for round := range 150 {
		x := newPair(t, two, 1+r.Intn(2), 0)
		pool := []uint64{0}
		for range 3 + r.Intn(8) {
			spread := []int{24, 200, 16}[round%3]
			pool = append(pool, 4096+uint64(r.Intn(spread))*uint64(1+15*(round%2)))
		}
		if round%5 == 0 {
			pool = append(pool, 100, 4090, 8184, 12280, 12272)
		}
		for range 120 {
			act(x, r, pool)
			if r.Intn(4) == 0 {
				often, stop := r.Intn(6), r.Intn(60)
				x.all(func(_ uint64, i int) bool {
					if often > 0 && i%often == 0 {
						act(x, r, pool)
					}
					return i != stop
				})
			}
			x.list()
		}
	}
}

// TestAnyMemory: whatever lies in the memory, every call ends and answers as the chapter says (P3.6, P3.8).
func TestAnyMemory(t *testing.T) {
	r := rand.New(rand.NewSource(8))
	for range 60 {
		x := newPair(t, two, 2, 0)
		any := func() uint64 {
			return []uint64{0, r.Uint64(), 4096 + uint64(r.Intn(8200)), 4096 + 8*uint64(r.Intn(1024)), 8176 + uint64(r.Intn(32))}[r.Intn(5)]
		}
		for p := uint64(4096); p < 12288; p += 8 {
			x.setWord(p, any())
		}
		for range 60 {
			x.m.head = any()
			x.l = links.New(x.s, x.m.head)
			x.list()
			x.push(any())
			x.remove(any())
			x.remove(x.l.Head())
			x.pop()
		}
	}
}
