package links_test

import (
	"bytes"
	"testing"

	"croft/api"
	"croft/links"
	"croft/mem"
)

// model is a list by the chapter's words, over bytes of its own.
type model struct {
	base, head uint64
	bytes      []byte
}

// there says whether the sixteen bytes from p on are committed, by counting them.
func (m *model) there(p uint64) bool {
	for d := range uint64(16) {
		if p+d < p || p+d < m.base || p+d-m.base >= uint64(len(m.bytes)) {
			return false
		}
	}
	return true
}

func (m *model) word(p uint64) uint64 {
	v := uint64(0)
	for i := 7; i >= 0; i-- {
		v = v*256 + uint64(m.bytes[p-m.base+uint64(i)])
	}
	return v
}

func (m *model) setWord(p, v uint64) {
	for i := range uint64(8) {
		m.bytes[p-m.base+i] = byte(v)
		v /= 256
	}
}

func (m *model) next(p uint64) uint64 { return m.word(p) }

func (m *model) prev(p uint64) uint64 { return m.word(p + 8) }

// push is P3.2.
func (m *model) push(p uint64) api.Errno {
	h := m.head
	switch {
	case !m.there(p):
		return api.EFAULT
	case h != 0 && !m.there(h):
		return api.EBROKEN
	case h != 0 && m.prev(h) != 0:
		return api.EBROKEN
	}
	m.setWord(p, h)
	m.setWord(p+8, 0)
	if h != 0 {
		m.setWord(h+8, p)
	}
	m.head = p
	return api.OK
}

// remove is P3.3.
func (m *model) remove(p uint64) api.Errno {
	if !m.there(p) {
		return api.EFAULT
	}
	n, b := m.next(p), m.prev(p)
	switch {
	case b == 0 && p != m.head:
		return api.EBROKEN
	case b != 0 && p == m.head:
		return api.EBROKEN
	case b != 0 && !m.there(b):
		return api.EBROKEN
	case b != 0 && m.next(b) != p:
		return api.EBROKEN
	case n != 0 && !m.there(n):
		return api.EBROKEN
	case n != 0 && m.prev(n) != p:
		return api.EBROKEN
	}
	if b != 0 {
		m.setWord(b, n)
	} else {
		m.head = n
	}
	if n != 0 {
		m.setWord(n+8, b)
	}
	return api.OK
}

// pop is P3.4.
func (m *model) pop() (uint64, api.Errno) {
	p := m.head
	if p == 0 {
		return 0, api.ESTATE
	}
	if e := m.remove(p); e != api.OK {
		return 0, e
	}
	return p, api.OK
}

// walk is one range of P3.5, done address by address, so that all can be changed between two.
type walk struct {
	m           *model
	hand, last  uint64
	given, most int
}

func (m *model) begin() *walk {
	return &walk{m: m, hand: m.head, most: len(m.bytes) / 16}
}

// step gives the next address, or says that the range ends.
func (w *walk) step() (uint64, bool) {
	p := w.hand
	if p == 0 || !w.m.there(p) || w.m.prev(p) != w.last || w.given == w.most {
		return 0, false
	}
	w.hand, w.last = w.m.next(p), p
	w.given++
	return p, true
}

// pairOf is a list and its model, side by side: each call is done on both, and both must tell the same.
type pairOf struct {
	t *testing.T
	s *mem.Space
	l *links.List
	m *model
}

// newPair lays a list over a space of a Config with so many regions.
func newPair(t *testing.T, c api.Config, regions int, head uint64) *pairOf {
	t.Helper()
	s := newSpace(t, c, regions)
	return &pairOf{t, s, links.New(s, head), &model{c.Base, head, make([]byte, s.End()-c.Base)}}
}

// same stops the test unless head and memory are the model's.
func (x *pairOf) same(what string, p uint64) {
	x.t.Helper()
	if x.l.Head() != x.m.head {
		x.t.Fatalf("%s %d: the head is %d, not %d", what, p, x.l.Head(), x.m.head)
	}
	b, e := x.s.Read(x.m.base, uint64(len(x.m.bytes)))
	if e != api.OK || !bytes.Equal(b, x.m.bytes) {
		x.t.Fatalf("%s %d: the memory is not as it should be behind it", what, p)
	}
}

func (x *pairOf) push(p uint64) api.Errno {
	x.t.Helper()
	e := x.l.Push(p)
	if by := x.m.push(p); e != by {
		x.t.Fatalf("Push(%d): %d, not %d", p, e, by)
	}
	x.same("Push", p)
	return e
}

func (x *pairOf) remove(p uint64) api.Errno {
	x.t.Helper()
	e := x.l.Remove(p)
	if by := x.m.remove(p); e != by {
		x.t.Fatalf("Remove(%d): %d, not %d", p, e, by)
	}
	x.same("Remove", p)
	return e
}

func (x *pairOf) pop() (uint64, api.Errno) {
	x.t.Helper()
	p, e := x.l.Pop()
	if q, by := x.m.pop(); p != q || e != by {
		x.t.Fatalf("Pop: %d, %d, not %d, %d", p, e, q, by)
	}
	x.same("Pop", p)
	return p, e
}

// setWord spoils the memory, past the list.
func (x *pairOf) setWord(p, v uint64) {
	x.t.Helper()
	want(x.t, "SetWord", x.s.SetWord(p, v), api.OK)
	x.m.setWord(p, v)
}

// setLinks writes both links of an address, next first.
func (x *pairOf) setLinks(p, next, prev uint64) {
	x.t.Helper()
	x.setWord(p, next)
	x.setWord(p+8, prev)
}

// commit and decommit bring a region, and take one.
func (x *pairOf) commit() {
	x.t.Helper()
	from := x.s.End()
	_, e := x.s.Commit(false)
	want(x.t, "Commit", e, api.OK)
	x.m.bytes = append(x.m.bytes, make([]byte, x.s.End()-from)...)
}

func (x *pairOf) decommit() {
	x.t.Helper()
	want(x.t, "Decommit", x.s.Decommit(1), api.OK)
	x.m.bytes = x.m.bytes[:x.s.End()-x.m.base]
}

// all ranges over the list and asks each address of the model; do is called in the range, with the address and how many were given before, and says whether to go on.
func (x *pairOf) all(do func(p uint64, i int) bool) []uint64 {
	x.t.Helper()
	var out []uint64
	w := x.m.begin()
	for p := range x.l.All() {
		q, ok := w.step()
		if !ok || p != q {
			x.t.Fatalf("All: %d where %d, %v should be, behind %d others", p, q, ok, len(out))
		}
		out = append(out, p)
		if !do(p, len(out)-1) {
			return out
		}
	}
	if q, ok := w.step(); ok {
		x.t.Fatalf("All ends behind %d, ahead of %d", len(out), q)
	}
	x.same("All", 0)
	return out
}

// list is all that a range gives in which nothing is done.
func (x *pairOf) list() []uint64 {
	x.t.Helper()
	return x.all(func(uint64, int) bool { return true })
}
