package mem_test

import (
	"bytes"
	"math"
	"math/big"
	"math/rand"
	"testing"

	"croft/api"
	"croft/mem"
)

// small is the Config of the chapter's examples: R is 8192, the border of its two regions at 73728.
var small = api.Config{Base: 65536, Limit: 2, Order: 1}

// newSpace makes a space with so many regions.
func newSpace(t *testing.T, c api.Config, regions int) *mem.Space {
	t.Helper()
	s, e := mem.New(c)
	if e != api.OK {
		t.Fatalf("New(%+v): %v", c, e)
	}
	for range regions {
		if _, e := s.Commit(false); e != api.OK {
			t.Fatalf("Commit %+v: %v", c, e)
		}
	}
	return s
}

// all tells every committed byte.
func all(t *testing.T, s *mem.Space, c api.Config) []byte {
	t.Helper()
	b, e := s.Read(c.Base, s.End()-c.Base)
	if e != api.OK || uint64(len(b)) != s.End()-c.Base {
		t.Fatalf("Read of all: %d bytes, %v", len(b), e)
	}
	return b
}

// want stops the test if a call did not answer e.
func want(t *testing.T, what string, got, e api.Errno) {
	t.Helper()
	if got != e {
		t.Fatalf("%s: %v, not %v", what, got, e)
	}
}

// mayBe says by exact numbers what DOC.md says of a Config.
func mayBe(c api.Config) bool {
	if c.Order < 0 || c.Order > 8 || c.Limit < 1 || c.Limit > 64 {
		return false
	}
	limit := big.NewInt(int64(c.Limit))
	if new(big.Int).Lsh(limit, uint(c.Order)).Cmp(big.NewInt(1024)) > 0 {
		return false
	}
	base := new(big.Int).SetUint64(c.Base)
	size := new(big.Int).Lsh(big.NewInt(4096), uint(c.Order))
	end := new(big.Int).Add(base, new(big.Int).Mul(limit, size))
	return base.Sign() != 0 && new(big.Int).Mod(base, size).Sign() == 0 && end.Cmp(new(big.Int).Lsh(big.NewInt(1), 63)) <= 0
}

// checkNew holds New against what a Config may be (P2.1).
func checkNew(t *testing.T, c api.Config) {
	t.Helper()
	s, e := mem.New(c)
	if !mayBe(c) {
		if s != nil || e != api.EINVAL {
			t.Fatalf("New(%+v): %v, %v", c, s, e)
		}
		return
	}
	if s == nil || e != api.OK || s.Regions() != 0 || s.End() != c.Base {
		t.Fatalf("New(%+v): %v, %v", c, s, e)
	}
	if _, e := s.Byte(c.Base); e != api.EFAULT {
		t.Fatalf("New(%+v) has a byte: %v", c, e)
	}
}

func TestNew(t *testing.T) {
	limits := []int{math.MinInt, -1 << 32, -1, 0, 65, 1 << 32, 1<<32 + 1, math.MaxInt}
	for limit := range 65 {
		limits = append(limits, limit)
	}
	orders := []int{math.MinInt, -64, -1, 0, 1, 2, 3, 4, 5, 6, 7, 8, 9, 52, 63, 64, 1 << 32, math.MaxInt}
	for _, order := range orders {
		for _, limit := range limits {
			size := uint64(4096) << min(max(order, 0), 8)
			room := uint64(max(limit, 0)) % 65 * size
			top := uint64(1)<<63 - room
			for _, base := range []uint64{0, 1, 16, size / 2, size - 1, size, size + 1, size + size/2, 65536, 1 << 20, 1<<20 + 4096, top - size, top - 1, top, top + 1, top + size/2, top + size, 1 << 63, 1<<63 + size, -room, -size, math.MaxUint64} {
				checkNew(t, api.Config{Base: base, Limit: limit, Order: order})
			}
		}
	}
}

func TestNewEdges(t *testing.T) {
	for _, c := range []api.Config{
		{Base: 4096, Limit: 64, Order: 0}, {Base: 1 << 16, Limit: 64, Order: 4}, {Base: 1 << 20, Limit: 4, Order: 8},
		{Base: 1<<63 - 4096, Limit: 1, Order: 0}, {Base: 1<<63 - 1<<22, Limit: 4, Order: 8},
	} {
		s := newSpace(t, c, c.Limit)
		size := uint64(4096) << c.Order
		if end := c.Base + uint64(c.Limit)*size; s.End() != end || s.Regions() != c.Limit {
			t.Errorf("%+v: %d regions, End %d", c, s.Regions(), s.End())
		}
		want(t, "the last byte", s.SetByte(s.End()-1, 5), api.OK)
		want(t, "behind the last byte", s.SetByte(s.End(), 5), api.EFAULT)
		if _, e := s.Commit(false); e != api.ENOMEM || s.Regions() != c.Limit {
			t.Errorf("%+v: a region more than Limit: %v", c, e)
		}
	}
}

func TestCommit(t *testing.T) {
	c := api.Config{Base: 3 << 14, Limit: 5, Order: 2}
	s := newSpace(t, c, 0)
	for i := range 5 {
		if p, e := s.Commit(true); p != 0 || e != api.ENOMEM || s.Regions() != i {
			t.Fatalf("denied: %d, %v, %d regions", p, e, s.Regions())
		}
		first := c.Base + uint64(i)<<14
		if s.End() != first {
			t.Fatalf("End with %d regions: %d", i, s.End())
		}
		if p, e := s.Commit(false); p != first || e != api.OK || s.Regions() != i+1 || s.End() != first+1<<14 {
			t.Fatalf("region %d: %d, %v, %d regions, End %d", i, p, e, s.Regions(), s.End())
		}
	}
	want(t, "Fill", s.Fill(c.Base, 5<<14, 7), api.OK)
	for _, deny := range []bool{false, true} {
		if p, e := s.Commit(deny); p != 0 || e != api.ENOMEM || s.Regions() != 5 {
			t.Fatalf("at Limit: %d, %v, %d regions", p, e, s.Regions())
		}
	}
	if !bytes.Equal(all(t, s, c), bytes.Repeat([]byte{7}, 5<<14)) {
		t.Fatal("a Commit that is refused has changed bytes")
	}
}

// TestCommitKeeps: what the regions below hold stays as regions come.
func TestCommitKeeps(t *testing.T) {
	c := api.Config{Base: 4096, Limit: 64, Order: 0}
	s := newSpace(t, c, 0)
	var model []byte
	for i := range 64 {
		p, e := s.Commit(false)
		want(t, "Commit", e, api.OK)
		model = append(model, make([]byte, 4096)...)
		if !bytes.Equal(all(t, s, c), model) {
			t.Fatalf("region %d is not 0, or one below it has changed", i)
		}
		want(t, "Fill", s.Fill(p, 4096, byte(i+1)), api.OK)
		copy(model[i*4096:], bytes.Repeat([]byte{byte(i + 1)}, 4096))
	}
}

func TestDecommit(t *testing.T) {
	c := api.Config{Base: 65536, Limit: 4, Order: 1}
	for regions := range 5 {
		for _, n := range []int{math.MinInt, -1 << 32, -2, -1, 0, 1, 2, 3, 4, 5, 64, 1 << 32, 1 << 51, math.MaxInt} {
			s := newSpace(t, c, regions)
			for i := range regions {
				want(t, "Fill", s.Fill(c.Base+uint64(i)*8192, 8192, byte(i+1)), api.OK)
			}
			ahead := all(t, s, c)
			if n < 0 || n > regions {
				want(t, "Decommit of what may not be", s.Decommit(n), api.EINVAL)
				if s.Regions() != regions || !bytes.Equal(all(t, s, c), ahead) {
					t.Fatalf("Decommit(%d) of %d regions is refused and changes", n, regions)
				}
				continue
			}
			want(t, "Decommit", s.Decommit(n), api.OK)
			left := uint64(regions-n) * 8192
			if s.Regions() != regions-n || s.End() != c.Base+left || !bytes.Equal(all(t, s, c), ahead[:left]) {
				t.Fatalf("Decommit(%d) of %d: %d regions, End %d", n, regions, s.Regions(), s.End())
			}
			if _, e := s.Byte(s.End()); e != api.EFAULT {
				t.Fatalf("Decommit(%d) of %d: a byte is still there: %v", n, regions, e)
			}
		}
	}
}

// TestComesAgain: a region that comes again is 0, however many went with it, and those that stayed hold what they held.
func TestComesAgain(t *testing.T) {
	c := api.Config{Base: 65536, Limit: 4, Order: 1}
	for gone := range 5 {
		s := newSpace(t, c, 4)
		want(t, "Fill", s.Fill(c.Base, 4*8192, 255), api.OK)
		want(t, "Decommit", s.Decommit(gone), api.OK)
		model := bytes.Repeat([]byte{255}, (4-gone)*8192)
		for i := range gone {
			if p, e := s.Commit(false); p != c.Base+uint64(4-gone+i)*8192 || e != api.OK {
				t.Fatalf("region comes again: %d, %v", p, e)
			}
			model = append(model, make([]byte, 8192)...)
			if !bytes.Equal(all(t, s, c), model) {
				t.Fatalf("%d gone, %d come again: not 0, or another one has changed", gone, i+1)
			}
		}
	}
}

// TestExamples goes through the chapter's table.
func TestExamples(t *testing.T) {
	for _, c := range []api.Config{{Base: 4096, Limit: 2, Order: 1}, {Base: 0, Limit: 1}, {Base: 65536, Limit: 65}, {Base: 1 << 63, Limit: 1}} {
		if s, e := mem.New(c); s != nil || e != api.EINVAL {
			t.Errorf("New(%+v): %v", c, e)
		}
	}
	s := newSpace(t, small, 0)
	isByte := func(p uint64, v byte, e api.Errno) {
		t.Helper()
		if got, errno := s.Byte(p); got != v || errno != e {
			t.Errorf("Byte(%d): %d, %v", p, got, errno)
		}
	}
	isWord := func(p, v uint64, e api.Errno) {
		t.Helper()
		if got, errno := s.Word(p); got != v || errno != e {
			t.Errorf("Word(%d): %x, %v", p, got, errno)
		}
	}
	isCommit := func(deny bool, p uint64, e api.Errno) {
		t.Helper()
		if got, errno := s.Commit(deny); got != p || errno != e {
			t.Errorf("Commit(%v): %d, %v", deny, got, errno)
		}
	}
	isRead := func(p, n uint64, b ...byte) {
		t.Helper()
		if got, errno := s.Read(p, n); !bytes.Equal(got, b) || errno != api.OK {
			t.Errorf("Read(%d, %d): %v, %v", p, n, got, errno)
		}
	}
	isByte(65536, 0, api.EFAULT)
	isRead(0, 0)
	if s.End() != 65536 {
		t.Error(s.End())
	}
	isCommit(true, 0, api.ENOMEM)
	isCommit(false, 65536, api.OK)
	isCommit(false, 73728, api.OK)
	isCommit(false, 0, api.ENOMEM)
	want(t, "SetWord", s.SetWord(73725, 0x0807060504030201), api.OK)
	isByte(73727, 3, api.OK)
	isWord(73728, 0x0807060504, api.OK)
	isWord(81913, 0, api.EFAULT)
	want(t, "Fill", s.Fill(65536, 4, 9), api.OK)
	want(t, "Copy", s.Copy(65538, 65536, 4), api.OK)
	isRead(65536, 7, 9, 9, 9, 9, 9, 9, 0)
	want(t, "Write", s.Write(81919, []byte{1, 2}), api.EFAULT)
	isByte(81919, 0, api.OK)
	want(t, "Fill", s.Fill(1<<64-1, 2, 1), api.EFAULT)
	want(t, "Copy", s.Copy(65536, 81920, 0), api.OK)
	want(t, "Decommit", s.Decommit(3), api.EINVAL)
	want(t, "Decommit", s.Decommit(1), api.OK)
	isByte(73728, 0, api.EFAULT)
	isCommit(false, 73728, api.OK)
	isByte(73728, 0, api.OK)
}

// TestApart: two spaces of one Config have nothing in common (R5).
func TestApart(t *testing.T) {
	s, o := newSpace(t, small, 2), newSpace(t, small, 1)
	want(t, "Fill", s.Fill(65536, 16384, 4), api.OK)
	if o.Regions() != 1 || !bytes.Equal(all(t, o, small), make([]byte, 8192)) {
		t.Fatal("what one space is filled with stands in another")
	}
	if _, e := o.Commit(false); e != api.OK {
		t.Fatal(e)
	}
	if !bytes.Equal(all(t, o, small), make([]byte, 16384)) {
		t.Fatal("another space's new region is not 0")
	}
	want(t, "Decommit", o.Decommit(2), api.OK)
	if s.Regions() != 2 || !bytes.Equal(all(t, s, small), bytes.Repeat([]byte{4}, 16384)) {
		t.Fatal("what goes from one space goes from another")
	}
}

// TestAlike: two spaces that have been through the same answer the same (R5).
func TestAlike(t *testing.T) {
	s, o := newSpace(t, small, 0), newSpace(t, small, 0)
	one, other := rand.New(rand.NewSource(3)), rand.New(rand.NewSource(3))
	for i := range 2000 {
		if a, b := randomCall(s, one), randomCall(o, other); !bytes.Equal(a, b) {
			t.Fatalf("call %d: %v, %v", i, a, b)
		}
	}
	if s.Regions() != o.Regions() || !bytes.Equal(all(t, s, small), all(t, o, small)) {
		t.Fatal("the same calls, and not the same bytes")
	}
}
