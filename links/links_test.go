package links_test

import (
	"bytes"
	"math"
	"math/rand"
	"slices"
	"testing"

	"croft/api"
	"croft/links"
	"croft/mem"
)

// page is the Config of the chapter's examples; two has a second region, the border at 8192.
var (
	page = api.Config{Base: 4096, Limit: 1, Order: 0}
	two  = api.Config{Base: 4096, Limit: 2, Order: 0}
)

// newSpace makes a space with so many regions.
func newSpace(t *testing.T, c api.Config, regions int) *mem.Space {
	t.Helper()
	s, e := mem.New(c)
	want(t, "mem.New", e, api.OK)
	for range regions {
		_, e := s.Commit(false)
		want(t, "Commit", e, api.OK)
	}
	return s
}

// want stops the test if a call did not answer e.
func want(t *testing.T, what string, got, e api.Errno) {
	t.Helper()
	if got != e {
		t.Fatalf("%s: %v, not %v", what, got, e)
	}
}

// wantPop stops the test if Pop did not answer p and e.
func wantPop(t *testing.T, x *pairOf, p uint64, e api.Errno) {
	t.Helper()
	if q, got := x.pop(); q != p || got != e {
		t.Fatalf("Pop: %d, %v, not %d, %v", q, got, p, e)
	}
}

// wantList stops the test unless All gives just these, and the head is the first of them.
func wantList(t *testing.T, x *pairOf, list ...uint64) {
	t.Helper()
	if got := x.list(); !slices.Equal(got, list) {
		t.Fatalf("All: %v, not %v", got, list)
	}
	head := uint64(0)
	if len(list) > 0 {
		head = list[0]
	}
	if x.l.Head() != head {
		t.Fatalf("Head: %d, not %d", x.l.Head(), head)
	}
}

// wantLinks stops the test unless the memory holds these links of p.
func wantLinks(t *testing.T, x *pairOf, p, next, prev uint64) {
	t.Helper()
	n, e := x.s.Word(p)
	b, f := x.s.Word(p + 8)
	if n != next || b != prev || e != api.OK || f != api.OK {
		t.Fatalf("links of %d: %d, %d, not %d, %d", p, n, b, next, prev)
	}
}

// outside are addresses of whose sixteen bytes some are missing, each number of them, at both ends; 0; and those whose sums wrap round.
func outside(base, end uint64) []uint64 {
	list := []uint64{0, 1, 16, 100, end + 1, end + 4096, 1<<63 - 16, 1<<63 - 8, 1 << 63, math.MaxUint64}
	for d := range uint64(16) {
		list = append(list, base-1-d, end-d, ^d)
	}
	return list
}

// TestExamples is the chapter's table.
func TestExamples(t *testing.T) {
	x := newPair(t, page, 1, 0)
	wantPop(t, x, 0, api.ESTATE)
	wantList(t, x)
	for _, p := range []uint64{4096, 4160, 4128} {
		want(t, "Push", x.push(p), api.OK)
	}
	wantLinks(t, x, 4128, 4160, 0)
	wantLinks(t, x, 4160, 4096, 4128)
	wantLinks(t, x, 4096, 0, 4160)
	wantList(t, x, 4128, 4160, 4096)
	want(t, "Remove", x.remove(4160), api.OK)
	wantLinks(t, x, 4128, 4096, 0)
	wantLinks(t, x, 4096, 0, 4128)
	wantLinks(t, x, 4160, 4096, 4128)
	want(t, "Remove once more", x.remove(4160), api.EBROKEN)
	wantPop(t, x, 4128, api.OK)
	wantPop(t, x, 4096, api.OK)
	wantPop(t, x, 0, api.ESTATE)
	wantList(t, x)
	want(t, "Push", x.push(8180), api.EFAULT)
	want(t, "Push", x.push(0), api.EFAULT)
	want(t, "Remove", x.remove(100), api.EFAULT)
	want(t, "Push", x.push(4096), api.OK)
	want(t, "Push", x.push(4112), api.OK)
	x.setWord(4104, 5)
	wantList(t, x, 4112)
	want(t, "Remove", x.remove(4096), api.EBROKEN)
	wantPop(t, x, 0, api.EBROKEN)
	y := newPair(t, page, 1, 4096)
	y.setLinks(4096, 4096, 0)
	wantList(t, y, 4096)
	wantPop(t, y, 0, api.EBROKEN)
}

// TestNewHead: any head is taken and told, and nothing is read or written (P3.1).
func TestNewHead(t *testing.T) {
	for regions := range 3 {
		heads := append(outside(4096, newSpace(t, two, regions).End()), 4096, 4097, 8176, 8192)
		for _, head := range heads {
			s := newSpace(t, two, regions)
			size := uint64(regions) * 4096
			want(t, "Fill", s.Fill(4096, size, 0xa5), api.OK)
			l := links.New(s, head)
			if l.Head() != head || l.Head() != head {
				t.Fatalf("New(s, %d): Head %d", head, l.Head())
			}
			b, e := s.Read(4096, size)
			if e != api.OK || !bytes.Equal(b, bytes.Repeat([]byte{0xa5}, int(size))) || s.Regions() != regions {
				t.Fatalf("New(s, %d) has changed the space", head)
			}
		}
	}
}

// TestNoLinks: Push and Remove of an address whose links are not there, ahead of all that is wrong with the head (P3.2, P3.3, P3.6).
func TestNoLinks(t *testing.T) {
	for regions := range 3 {
		end := newSpace(t, two, regions).End()
		for _, head := range []uint64{0, 4096, 4100, 100, end, math.MaxUint64} {
			x := newPair(t, two, regions, head)
			for p := uint64(4096); p < end; p += 8 {
				x.setWord(p, p*3)
			}
			for _, p := range outside(4096, end) {
				want(t, "Push", x.push(p), api.EFAULT)
				want(t, "Remove", x.remove(p), api.EFAULT)
			}
		}
	}
}

// TestLastPlaces: the first and the last sixteen bytes, and those over a border of regions, hold links (P3.2 to P3.4).
func TestLastPlaces(t *testing.T) {
	x := newPair(t, two, 2, 0)
	places := []uint64{4096, 12288 - 16, 8192 - 8, 8192 + 16}
	for _, p := range places {
		want(t, "Push", x.push(p), api.OK)
	}
	wantList(t, x, 8208, 8184, 12272, 4096)
	want(t, "Remove", x.remove(12272), api.OK)
	wantList(t, x, 8208, 8184, 4096)
	wantPop(t, x, 8208, api.OK)
	wantPop(t, x, 8184, api.OK)
	wantPop(t, x, 4096, api.OK)
	wantPop(t, x, 0, api.ESTATE)
}

// TestHeads: what Push, Pop and All do with heads that are no address, or whose links are not there or not a first one's (P3.2, P3.4 to P3.6).
func TestHeads(t *testing.T) {
	for regions := 1; regions <= 2; regions++ {
		for _, head := range outside(4096, newSpace(t, two, regions).End()) {
			x := newPair(t, two, regions, head)
			if head == 0 {
				continue // an empty list
			}
			want(t, "Push", x.push(4112), api.EBROKEN)
			wantPop(t, x, 0, api.EFAULT)
			if got := x.list(); len(got) != 0 {
				t.Fatalf("All of the head %d: %v", head, got)
			}
		}
	}
	for _, prev := range []uint64{1, 5, 4096, 4112, 4160, 1 << 56, math.MaxUint64} {
		x := newPair(t, page, 1, 4160)
		x.setLinks(4160, 0, prev)
		want(t, "Push", x.push(4112), api.EBROKEN)
		want(t, "Push of the head", x.push(4160), api.EBROKEN)
		wantPop(t, x, 0, api.EBROKEN)
		if got := x.list(); len(got) != 0 {
			t.Fatalf("All of a head with the prev %d: %v", prev, got)
		}
		x.setWord(4168, 0)
		want(t, "Push", x.push(4112), api.OK)
		wantList(t, x, 4112, 4160)
	}
}

// TestPushAgain: the head pushed once more leads to itself, and stands so (P3.2).
func TestPushAgain(t *testing.T) {
	x := newPair(t, page, 1, 0)
	want(t, "Push", x.push(4096), api.OK)
	want(t, "Push again", x.push(4096), api.OK)
	wantLinks(t, x, 4096, 4096, 4096)
	if got := x.list(); len(got) != 0 {
		t.Fatalf("All: %v", got)
	}
	want(t, "Push once more", x.push(4096), api.EBROKEN)
	wantPop(t, x, 0, api.EBROKEN)
	x.setWord(4104, 0)
	wantList(t, x, 4096)
	wantPop(t, x, 0, api.EBROKEN)
}

// TestRemovePlaces: the head, the last one, one between, the only one; once more; one that was never there (P3.3, P3.4).
func TestRemovePlaces(t *testing.T) {
	x := newPair(t, page, 1, 0)
	lay := func() {
		for {
			if _, e := x.pop(); e != api.OK {
				break
			}
		}
		for _, p := range []uint64{5000, 4200, 6000, 7001} {
			want(t, "Push", x.push(p), api.OK)
		}
		wantList(t, x, 7001, 6000, 4200, 5000)
	}
	lay()
	want(t, "Remove of the head", x.remove(7001), api.OK)
	wantList(t, x, 6000, 4200, 5000)
	wantLinks(t, x, 7001, 6000, 0)
	want(t, "Remove once more", x.remove(7001), api.EBROKEN)
	lay()
	want(t, "Remove of the last one", x.remove(5000), api.OK)
	wantList(t, x, 7001, 6000, 4200)
	wantLinks(t, x, 5000, 0, 4200)
	want(t, "Remove once more", x.remove(5000), api.EBROKEN)
	lay()
	want(t, "Remove of one between", x.remove(6000), api.OK)
	wantList(t, x, 7001, 4200, 5000)
	wantLinks(t, x, 6000, 4200, 7001)
	want(t, "Remove once more", x.remove(6000), api.EBROKEN)
	want(t, "Remove of one that is not there", x.remove(4500), api.EBROKEN)
	want(t, "Remove", x.remove(7001), api.OK)
	want(t, "Remove", x.remove(5000), api.OK)
	want(t, "Remove of the only one", x.remove(4200), api.OK)
	wantList(t, x)
	want(t, "Remove from an empty list", x.remove(4200), api.EBROKEN)
	want(t, "Remove from an empty list", x.remove(4500), api.EBROKEN)
}

// TestRemoveAsks: each of the things that Remove asks is asked by itself, all others holding (P3.3, P3.6).
func TestRemoveAsks(t *testing.T) {
	const b, p, n, far = 4128, 4160, 4224, 4288
	cases := []struct {
		what       string
		head       uint64
		next, from uint64 // p's next, and the prev of that one
		prev, to   uint64 // p's prev, and the next of that one
		e          api.Errno
	}{
		{"a place between two", far, n, p, b, p, api.OK},
		{"the head", p, n, p, 0, 0, api.OK},
		{"the last one", far, 0, 0, b, p, api.OK},
		{"prev 0, and not the head", far, n, p, 0, 0, api.EBROKEN},
		{"prev 0, and the head is 0", 0, n, p, 0, 0, api.EBROKEN},
		{"the head, and prev not 0", p, n, p, b, p, api.EBROKEN},
		{"prev is not there", far, n, p, 100, 0, api.EBROKEN},
		{"of prev one byte is missing", far, n, p, 8177, p, api.EBROKEN},
		{"of prev one word is missing", far, n, p, 8184, p, api.EBROKEN},
		{"prev wraps round", far, n, p, math.MaxUint64 - 7, 0, api.EBROKEN},
		{"prev leads elsewhere", far, n, p, b, n, api.EBROKEN},
		{"prev leads nowhere", far, n, p, b, 0, api.EBROKEN},
		{"next is not there", far, 8192, 0, b, p, api.EBROKEN},
		{"of next one byte is missing", far, 4095, p, b, p, api.EBROKEN},
		{"of next one word is missing", far, 4088, p, b, p, api.EBROKEN},
		{"next wraps round", p, math.MaxUint64 - 7, 0, 0, 0, api.EBROKEN},
		{"next came from elsewhere", far, n, far, b, p, api.EBROKEN},
		{"next came from nowhere", p, n, 0, 0, 0, api.EBROKEN},
	}
	for _, c := range cases {
		x := newPair(t, page, 1, c.head)
		x.setLinks(p, c.next, c.prev)
		if c.from != 0 {
			x.setWord(c.next+8, c.from)
		}
		if c.to != 0 {
			x.setWord(c.prev, c.to)
		}
		want(t, "Remove of "+c.what, x.remove(p), c.e)
		wantLinks(t, x, p, c.next, c.prev)
		if c.e == api.OK && c.prev != 0 {
			wantLinks(t, x, c.prev, c.next, 0)
		}
		if c.e == api.OK && c.next != 0 {
			wantLinks(t, x, c.next, 0, c.prev)
		}
	}
}

// TestOverlap: of addresses less than sixteen bytes apart the words are written in the chapter's order (P3.2).
func TestOverlap(t *testing.T) {
	x := newPair(t, page, 1, 0)
	want(t, "Push", x.push(4104), api.OK)
	want(t, "Push below", x.push(4096), api.OK) // prev of 4096 is next of 4104
	wantLinks(t, x, 4096, 4104, 0)
	wantLinks(t, x, 4104, 0, 4096)
	x = newPair(t, page, 1, 0)
	want(t, "Push", x.push(4096), api.OK)
	want(t, "Push above", x.push(4104), api.OK) // next of 4104 is prev of 4096, written thrice
	wantLinks(t, x, 4104, 4104, 0)
	wantLinks(t, x, 4096, 0, 4104)
	x = newPair(t, page, 1, 4096)
	x.setWord(4096, 0xffff)
	want(t, "Push one byte above", x.push(4097), api.OK)
	wantLinks(t, x, 4097, 0x0100000000001000, 0x10)
	wantLinks(t, x, 4096, 0x1000ff, 0x1001)
}

// TestEveryOverlap: Push, Remove and Pop at each distance below sixteen, over memory of many kinds (P3.2, P3.3, P3.6).
func TestEveryOverlap(t *testing.T) {
	const middle = 4160
	for d := -17; d <= 17; d++ {
		p := uint64(middle + d)
		for kind := range uint64(6) {
			x := newPair(t, page, 1, middle)
			x.setLinks(middle, []uint64{0, p, middle, 4096, 5, 0x0101010101010101}[kind], 0)
			x.push(p)
			x.push(middle)
			x.remove(middle)
			x.remove(p)
			x.pop()
			x.pop()
		}
		for kind := range uint64(4) {
			x := newPair(t, page, 1, []uint64{middle, p, 0, 4096}[kind])
			x.setLinks(middle, p, p)
			x.setLinks(p, middle, middle)
			x.remove(middle)
			x.remove(p)
			x.setWord(p+8, 0)
			x.remove(p)
			x.list()
		}
	}
}

// TestRemoveOverlap: Remove succeeds where links overlap, and writes the words in the chapter's order (P3.3).
func TestRemoveOverlap(t *testing.T) {
	x := newPair(t, page, 1, 4096)
	x.setLinks(4096, 4112, 4112) // ahead of 4112 and behind it at once
	x.setLinks(4112, 4096, 4096)
	want(t, "Remove", x.remove(4112), api.OK)
	wantLinks(t, x, 4096, 4096, 4096)
	y := newPair(t, page, 1, 4096)
	y.setWord(5000, 5100)        // b = 5000
	y.setLinks(5100, 4992, 5000) // n = 4992, whose prev is the word of b's next
	want(t, "Remove", y.remove(5100), api.OK)
	wantLinks(t, y, 4992, 0, 5000) // next of b first, prev of n over it
	wantLinks(t, y, 5000, 5000, 0)
}

// TestRemoveItself: of an address whose bytes are all alike the one ahead may lie in its own links; what Remove writes there first does not change what it writes then (P3.3).
func TestRemoveItself(t *testing.T) {
	const base, p, n = 0x0101010101010000, 0x0101010101010101, 0x0101010101010140
	x := newPair(t, api.Config{Base: base, Limit: 1, Order: 0}, 1, base)
	x.setLinks(p, n, p+9)
	x.setWord(p+9, p) // its first seven bytes stand already
	x.setWord(n+8, p)
	want(t, "Remove", x.remove(p), api.OK)
	wantLinks(t, x, p+9, n, 0)
	wantLinks(t, x, n, 0, p+9)
	wantLinks(t, x, p, n, 0x010101010101400a)
}

// TestSpoilt is what follows from a spoilt prev or next: of each address on lists of each length (P3.7).
func TestSpoilt(t *testing.T) {
	list := []uint64{8176, 4096, 4112, 6001, 4128, 7000}
	words := append([]uint64{0, 5, 4104, 8192, math.MaxUint64, 4500}, list...)
	for length := 1; length <= len(list); length++ {
		for i := range length {
			for _, w := range words {
				checkSpoiltPrev(t, list[:length], i, w)
				checkSpoiltNext(t, list[:length], i, w)
			}
		}
	}
}

// laid is a list that holds these, the first one at the head.
func laid(t *testing.T, list []uint64) *pairOf {
	t.Helper()
	x := newPair(t, page, 1, 0)
	for _, p := range slices.Backward(list) {
		want(t, "Push", x.push(p), api.OK)
	}
	wantList(t, x, list...)
	return x
}

func checkSpoiltPrev(t *testing.T, list []uint64, i int, w uint64) {
	t.Helper()
	x := laid(t, list)
	if old, _ := x.s.Word(list[i] + 8); old == w {
		return
	}
	x.setWord(list[i]+8, w)
	if got := x.list(); !slices.Equal(got, list[:i]) {
		t.Fatalf("All with a spoilt prev of %d: %v of %v", list[i], got, list)
	}
	if i > 0 {
		want(t, "Remove of the one ahead", x.remove(list[i-1]), api.EBROKEN)
	}
	if w == 0 || slices.Contains(list, w) {
		want(t, "Remove of the spoilt one", x.remove(list[i]), api.EBROKEN)
	}
}

func checkSpoiltNext(t *testing.T, list []uint64, i int, w uint64) {
	t.Helper()
	x := laid(t, list)
	if old, _ := x.s.Word(list[i]); old == w {
		return
	}
	x.setWord(list[i], w)
	if i+1 < len(list) {
		want(t, "Remove of the one behind", x.remove(list[i+1]), api.EBROKEN)
	}
	if got := x.list(); len(got) <= i || !slices.Equal(got[:i+1], list[:i+1]) {
		t.Fatalf("All with a spoilt next of %d: %v of %v", list[i], got, list)
	}
}

// changedWords tells the addresses of the words, at multiples of 8, in which two memories differ.
func changedWords(base uint64, a, b []byte) []uint64 {
	var list []uint64
	for i := 0; i < len(a); i += 8 {
		if !bytes.Equal(a[i:i+8], b[i:i+8]) {
			list = append(list, base+uint64(i))
		}
	}
	return list
}

// TestSound: on addresses sixteen bytes apart a list is what was pushed and not taken off; nothing is broken; of others one word of each neighbour changes (P3.7).
func TestSound(t *testing.T) {
	r := rand.New(rand.NewSource(3))
	x := newPair(t, two, 2, 0)
	for p := uint64(4096); p < 12288; p += 8 {
		x.setWord(p, r.Uint64())
	}
	var on, off []uint64
	for p := uint64(4096); p < 12288; p += 16 {
		off = append(off, p)
	}
	for range 4000 {
		before, _ := x.s.Read(4096, 8192)
		may := []uint64{} // which words may change
		switch i := r.Intn(3); {
		case i == 0 && len(off) > 0:
			j := r.Intn(len(off))
			p := off[j]
			may = append(may, p, p+8)
			if len(on) > 0 {
				may = append(may, on[0]+8)
			}
			want(t, "Push", x.push(p), api.OK)
			on, off = slices.Insert(on, 0, p), slices.Delete(off, j, j+1)
		case len(on) == 0:
			wantPop(t, x, 0, api.ESTATE)
		default:
			j := 0
			if i == 1 {
				j = r.Intn(len(on))
			}
			p := on[j]
			if j > 0 {
				may = append(may, on[j-1])
			}
			if j+1 < len(on) {
				may = append(may, on[j+1]+8)
			}
			if i == 1 {
				want(t, "Remove", x.remove(p), api.OK)
			} else {
				wantPop(t, x, p, api.OK)
			}
			on, off = slices.Delete(on, j, j+1), append(off, p)
		}
		wantList(t, x, on...)
		behind, _ := x.s.Read(4096, 8192)
		for _, w := range changedWords(4096, before, behind) {
			if !slices.Contains(may, w) {
				t.Fatalf("the word at %d has changed", w)
			}
		}
	}
}

// TestFull: all addresses of a space, sixteen bytes apart, are on one list, and all are given and come off again (P3.5, P3.7).
func TestFull(t *testing.T) {
	for _, c := range []api.Config{page, two, {Base: 16384, Limit: 1, Order: 2}} {
		s := newSpace(t, c, c.Limit)
		l := links.New(s, 0)
		var list []uint64
		for p := c.Base; p < s.End(); p += 16 {
			want(t, "Push", l.Push(p), api.OK)
			list = append(list, p)
		}
		slices.Reverse(list)
		if got := slices.Collect(l.All()); !slices.Equal(got, list) {
			t.Fatalf("All of %d gives %d", len(list), len(got))
		}
		for _, p := range list {
			if q, e := l.Pop(); p != q || e != api.OK {
				t.Fatalf("Pop: %d, %v, not %d", q, e, p)
			}
		}
		if l.Head() != 0 {
			t.Fatalf("Head: %d", l.Head())
		}
	}
}

// TestTwoLists: lists over one space know nothing of one another but what the memory tells; over two spaces nothing at all (R5).
func TestTwoLists(t *testing.T) {
	s, other := newSpace(t, page, 1), newSpace(t, page, 1)
	a, b, c := links.New(s, 0), links.New(s, 0), links.New(other, 0)
	for _, p := range []uint64{4096, 4112} {
		want(t, "Push", a.Push(p), api.OK)
		want(t, "Push", b.Push(p+64), api.OK)
		want(t, "Push", c.Push(p+128), api.OK)
	}
	same := func(l *links.List, list ...uint64) {
		t.Helper()
		if got := slices.Collect(l.All()); !slices.Equal(got, list) {
			t.Fatalf("All: %v, not %v", got, list)
		}
	}
	same(a, 4112, 4096)
	same(b, 4176, 4160)
	same(c, 4240, 4224)
	d := links.New(s, 4112) // stands on what a stands on
	same(d, 4112, 4096)
	want(t, "Remove by the other", d.Remove(4096), api.OK)
	same(a, 4112)
	if p, e := d.Pop(); p != 4112 || e != api.OK || d.Head() != 0 || a.Head() != 4112 {
		t.Fatalf("Pop by the other: %d, %v; heads %d, %d", p, e, d.Head(), a.Head())
	}
	same(a, 4112)
	want(t, "Remove of what b holds", a.Remove(4160), api.OK) // the memory tells it as well linked
	same(b, 4176)
	want(t, "Remove of b's head", a.Remove(4176), api.EBROKEN)
	want(t, "Decommit", s.Decommit(1), api.OK)
	same(a)
	same(b)
	same(c, 4240, 4224)
}

// TestRegionsGo: a list whose head has gone with its region is told, and stands again where the words do (P3.2 to P3.6).
func TestRegionsGo(t *testing.T) {
	x := newPair(t, two, 2, 0)
	for _, p := range []uint64{4096, 8192, 8184, 4112} {
		want(t, "Push", x.push(p), api.OK)
	}
	x.decommit()
	if got := x.list(); !slices.Equal(got, []uint64{4112}) {
		t.Fatalf("All: %v", got)
	}
	want(t, "Remove", x.remove(8184), api.EFAULT)
	wantPop(t, x, 0, api.EBROKEN)
	want(t, "Remove", x.remove(4096), api.EBROKEN)
	want(t, "Push", x.push(4128), api.OK)
	x.decommit()
	if got := x.list(); len(got) != 0 {
		t.Fatalf("All: %v", got)
	}
	wantPop(t, x, 0, api.EFAULT)
	want(t, "Push", x.push(4096), api.EFAULT)
	x.commit()
	if got := x.list(); !slices.Equal(got, []uint64{4128}) { // its links are 0 and 0
		t.Fatalf("All: %v", got)
	}
	wantPop(t, x, 4128, api.OK)
	wantList(t, x)
}
