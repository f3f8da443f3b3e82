package mem_test

import (
	"bytes"
	"math"
	"math/big"
	"math/rand"
	"slices"
	"testing"

	"croft/api"
	"croft/mem"
)

// areThere says by exact numbers whether the n bytes from p on are there (P2.3).
func areThere(base, end, p, n uint64) bool {
	sum := new(big.Int).Add(new(big.Int).SetUint64(p), new(big.Int).SetUint64(n))
	return n == 0 || p >= base && sum.Cmp(new(big.Int).SetUint64(end)) <= 0
}

// edges are addresses about base and end, about both ends of all numbers, and about 2^63.
func edges(base, end uint64) []uint64 {
	var list []uint64
	for _, x := range []uint64{0, base, base + 8192, end, 1 << 63} {
		for d := range uint64(10) {
			list = append(list, x+d, x-d)
		}
	}
	return list
}

// lengths are those about 0, a region, all of the regions, and those whose sum with an address passes 2^64.
func lengths(base, end uint64) []uint64 {
	list := []uint64{0, 1, 2, 7, 8, 9, 8191, 8192, 8193, end - base - 1, end - base, end - base + 1, end, 1 << 62, 1 << 63, 1<<63 + 1, -base - 1, -base, -base + 1, -end, -end + 1}
	for d := range uint64(10) {
		list = append(list, math.MaxUint64-d)
	}
	return list
}

// pattern fills a space with bytes that differ from their neighbours.
func pattern(t *testing.T, s *mem.Space, c api.Config) []byte {
	t.Helper()
	b := make([]byte, s.End()-c.Base)
	for i := range b {
		b[i] = byte(i*7 + i/256)
	}
	want(t, "Write of all", s.Write(c.Base, b), api.OK)
	return b
}

// expect tells the answer that P2.3 asks for.
func expect(there bool) api.Errno {
	if there {
		return api.OK
	}
	return api.EFAULT
}

// checkHolds stops the test unless the space holds just what the model does.
func checkHolds(t *testing.T, s *mem.Space, model []byte, what string, p, n uint64) {
	t.Helper()
	if !bytes.Equal(all(t, s, small), model) {
		t.Fatalf("%s at %d, %d bytes: not as it should be behind it", what, p, n)
	}
}

// TestOneByte: Byte and SetByte, at each edge (P2.3, P2.4).
func TestOneByte(t *testing.T) {
	for regions := range 3 {
		s := newSpace(t, small, regions)
		model := pattern(t, s, small)
		for _, p := range edges(small.Base, s.End()) {
			e := expect(areThere(small.Base, s.End(), p, 1))
			v, got := s.Byte(p)
			if got != e || e != api.OK && v != 0 || e == api.OK && v != model[p-small.Base] {
				t.Fatalf("Byte(%d): %d, %v", p, v, got)
			}
			want(t, "SetByte", s.SetByte(p, ^v), e)
			if e == api.OK {
				model[p-small.Base] = ^v
			}
			checkHolds(t, s, model, "SetByte", p, 1)
		}
	}
}

// TestWords: Word and SetWord, at each edge, and over the border of the two regions (P2.3, P2.4).
func TestWords(t *testing.T) {
	for regions := range 3 {
		s := newSpace(t, small, regions)
		model := pattern(t, s, small)
		for _, p := range edges(small.Base, s.End()) {
			e := expect(areThere(small.Base, s.End(), p, 8))
			v, got := s.Word(p)
			want(t, "Word", got, e)
			if e != api.OK {
				if v != 0 {
					t.Fatalf("Word(%d): %x beside an error", p, v)
				}
				want(t, "SetWord", s.SetWord(p, math.MaxUint64), e)
				checkHolds(t, s, model, "SetWord", p, 8)
				continue
			}
			at := p - small.Base
			sum := uint64(0)
			for i := 7; i >= 0; i-- {
				sum = sum*256 + uint64(model[at+uint64(i)])
			}
			if v != sum {
				t.Fatalf("Word(%d): %x, not %x", p, v, sum)
			}
			want(t, "SetWord", s.SetWord(p, 0xfedcba9876543210+p), e)
			for i, rest := 0, 0xfedcba9876543210+p; i < 8; i, rest = i+1, rest/256 {
				model[at+uint64(i)] = byte(rest % 256)
			}
			checkHolds(t, s, model, "SetWord", p, 8)
		}
	}
}

// TestEveryBorderWord: a word at each place about the border of two regions is what its bytes are (P2.4).
func TestEveryBorderWord(t *testing.T) {
	for d := range uint64(9) {
		s := newSpace(t, small, 2)
		p := 73728 - d
		want(t, "SetWord", s.SetWord(p, 0x8877665544332211), api.OK)
		model := make([]byte, 16384)
		copy(model[p-65536:], []byte{0x11, 0x22, 0x33, 0x44, 0x55, 0x66, 0x77, 0x88})
		checkHolds(t, s, model, "SetWord", p, 8)
		if v, e := s.Word(p); v != 0x8877665544332211 || e != api.OK {
			t.Fatalf("Word(%d): %x, %v", p, v, e)
		}
	}
}

// TestFill: each of the bytes that are there, or none (P2.3, P2.4).
func TestFill(t *testing.T) {
	for regions := range 3 {
		s := newSpace(t, small, regions)
		model := pattern(t, s, small)
		v := byte(0)
		for _, p := range edges(small.Base, s.End()) {
			for _, n := range lengths(small.Base, s.End()) {
				v += 37
				e := expect(areThere(small.Base, s.End(), p, n))
				want(t, "Fill", s.Fill(p, n, v), e)
				if e == api.OK && n > 0 {
					copy(model[p-small.Base:], bytes.Repeat([]byte{v}, int(n)))
				}
				checkHolds(t, s, model, "Fill", p, n)
			}
		}
	}
}

// TestRead: the bytes that are there, in new memory, or none (P2.3, P2.4).
func TestRead(t *testing.T) {
	for regions := range 3 {
		s := newSpace(t, small, regions)
		model := pattern(t, s, small)
		for _, p := range edges(small.Base, s.End()) {
			for _, n := range lengths(small.Base, s.End()) {
				e := expect(areThere(small.Base, s.End(), p, n))
				b, got := s.Read(p, n)
				want(t, "Read", got, e)
				if e != api.OK || n == 0 {
					if len(b) != 0 {
						t.Fatalf("Read(%d, %d): %d bytes, %v", p, n, len(b), got)
					}
				} else if !bytes.Equal(b, model[p-small.Base:][:n]) {
					t.Fatalf("Read(%d, %d): not the bytes that are there", p, n)
				}
				checkHolds(t, s, model, "Read", p, n)
			}
		}
	}
}

// TestWrite: all of the bytes, or none (P2.3, P2.4).
func TestWrite(t *testing.T) {
	for regions := range 3 {
		s := newSpace(t, small, regions)
		model := pattern(t, s, small)
		for _, p := range edges(small.Base, s.End()) {
			for _, n := range []uint64{0, 1, 2, 7, 8, 9, 11, 8191, 8192, 8193, 16383, 16384, 16385} {
				b := make([]byte, n)
				for i := range b {
					b[i] = byte(p) ^ byte(i*5+1)
				}
				e := expect(areThere(small.Base, s.End(), p, n))
				want(t, "Write", s.Write(p, b), e)
				if e == api.OK && n > 0 {
					copy(model[p-small.Base:], b)
				}
				checkHolds(t, s, model, "Write", p, n)
			}
		}
		want(t, "Write of nil", s.Write(7, nil), api.OK)
	}
}

// TestCopyFaults: both stretches must be there; that one is, helps nothing (P2.3, P2.4).
func TestCopyFaults(t *testing.T) {
	for regions := range 3 {
		s := newSpace(t, small, regions)
		model := pattern(t, s, small)
		end := s.End()
		places := []uint64{0, 65535, 65536, 65537, 73720, 73728, end - 9, end - 8, end - 1, end, end + 1, 1<<63 - 1, 1 << 63, math.MaxUint64 - 1, math.MaxUint64}
		for _, to := range places {
			for _, from := range places {
				for _, n := range []uint64{0, 1, 2, 8, 9, 8192, 8193, 16384, 16385, 1 << 63, -end, -small.Base, math.MaxUint64} {
					there := areThere(small.Base, end, to, n) && areThere(small.Base, end, from, n)
					want(t, "Copy", s.Copy(to, from, n), expect(there))
					if there && n > 0 {
						source := slices.Clone(model[from-small.Base:][:n])
						copy(model[to-small.Base:], source)
					}
					checkHolds(t, s, model, "Copy", to, n)
				}
			}
		}
	}
}

// TestCopyOverlaps: what the source was ahead of the call arrives, whichever way the two overlap, over the border of two regions as well (P2.4).
func TestCopyOverlaps(t *testing.T) {
	for _, middle := range []uint64{65600, 73728, 81900} {
		for _, n := range []uint64{1, 3, 8, 19} {
			for to := middle - 20; to <= middle; to++ {
				for from := middle - 20; from <= middle; from++ {
					s := newSpace(t, small, 2)
					model := pattern(t, s, small)
					source := slices.Clone(model[from-small.Base:][:n])
					copy(model[to-small.Base:], source)
					want(t, "Copy", s.Copy(to, from, n), api.OK)
					checkHolds(t, s, model, "Copy", to, n)
				}
			}
		}
	}
	s := newSpace(t, small, 2)
	model := pattern(t, s, small)
	want(t, "Copy up", s.Copy(65537, 65536, 16383), api.OK)
	checkHolds(t, s, slices.Concat(model[:1], model[:16383]), "Copy up", 65537, 16383)
	model = pattern(t, s, small)
	want(t, "Copy down", s.Copy(65536, 65537, 16383), api.OK)
	checkHolds(t, s, slices.Concat(model[1:], model[16383:]), "Copy down", 65536, 16383)
}

// TestNone: no bytes are there at any address, also where there is no region (P2.3).
func TestNone(t *testing.T) {
	for regions := range 3 {
		s := newSpace(t, small, regions)
		model := pattern(t, s, small)
		for _, p := range edges(small.Base, s.End()) {
			want(t, "Fill", s.Fill(p, 0, 1), api.OK)
			want(t, "Write", s.Write(p, []byte{}), api.OK)
			for _, q := range edges(small.Base, s.End()) {
				want(t, "Copy", s.Copy(p, q, 0), api.OK)
			}
			if b, e := s.Read(p, 0); len(b) != 0 || e != api.OK {
				t.Fatalf("Read(%d, 0): %v, %v", p, b, e)
			}
		}
		checkHolds(t, s, model, "a call of no bytes", 0, 0)
	}
}

// TestArguments: what is handed in is not changed, spare room included, and not kept (R4).
func TestArguments(t *testing.T) {
	s := newSpace(t, small, 2)
	room := []byte{9, 1, 2, 3, 8, 7, 6}
	b := room[1:4]
	for _, p := range []uint64{65536, 73727, 81917} {
		want(t, "Write", s.Write(p, b), api.OK)
	}
	want(t, "Write", s.Write(81918, b), api.EFAULT)
	want(t, "Fill", s.Fill(65536, 1, 50), api.OK)
	if !bytes.Equal(room, []byte{9, 1, 2, 3, 8, 7, 6}) {
		t.Fatalf("Write has changed what it was given: %v", room)
	}
	clear(room)
	if got, e := s.Read(73727, 3); !bytes.Equal(got, []byte{1, 2, 3}) || e != api.OK {
		t.Fatalf("Write has kept what it was given: %v, %v", got, e)
	}
}

// TestAnswers: what is answered is new memory, spare room too (R4).
func TestAnswers(t *testing.T) {
	s := newSpace(t, small, 2)
	model := pattern(t, s, small)
	for _, n := range []uint64{0, 1, 7, 8192, 8193, 16384} {
		one, _ := s.Read(65536, n)
		other, _ := s.Read(65536, n)
		clear(one[:cap(one)])
		checkHolds(t, s, model, "a write into what Read has answered", 65536, n)
		if !bytes.Equal(other, model[:n]) {
			t.Fatalf("two answers of Read share memory: %d bytes", n)
		}
		third, _ := s.Read(65536, n)
		want(t, "Fill", s.Fill(65536, n, 200), api.OK)
		if !bytes.Equal(third, model[:n]) {
			t.Fatalf("a later call has changed what Read has answered: %d bytes", n)
		}
		want(t, "Write", s.Write(65536, model[:n]), api.OK)
	}
}

// randomCall does one call on a space of the Config small, chosen by r, and tells what it answered.
func randomCall(s *mem.Space, r *rand.Rand) []byte {
	p, q := small.Base-4+uint64(r.Intn(16392)), small.Base-4+uint64(r.Intn(16392))
	n := uint64(r.Intn(40))
	if r.Intn(8) == 0 {
		n = uint64(r.Intn(16400))
	}
	switch r.Intn(10) {
	case 0:
		first, e := s.Commit(r.Intn(4) == 0)
		return []byte{byte(first >> 8), byte(e)}
	case 1:
		if r.Intn(4) == 0 {
			return []byte{byte(s.Decommit(r.Intn(5) - 1))}
		}
		return nil
	case 2:
		v, e := s.Byte(p)
		return []byte{v, byte(e)}
	case 3:
		return []byte{byte(s.SetByte(p, byte(q)))}
	case 4:
		v, e := s.Word(p)
		return append(big.NewInt(0).SetUint64(v).Bytes(), byte(e))
	case 5:
		return []byte{byte(s.SetWord(p, r.Uint64()))}
	case 6:
		return []byte{byte(s.Fill(p, n, byte(q)))}
	case 7:
		return []byte{byte(s.Copy(p, q, n))}
	case 8:
		b, e := s.Read(p, n)
		return append(b, byte(e))
	}
	b := make([]byte, n)
	r.Read(b)
	return []byte{byte(s.Write(p, b))}
}

// store is a space as plainly as can be: how many regions, and by address what was put there last since its region came (P2.5).
type store struct {
	regions int
	last    map[uint64]byte
}

func (m *store) end() uint64 { return small.Base + uint64(m.regions)*8192 }

func (m *store) drop(n int) {
	m.regions -= n
	for p := range m.last {
		if p >= m.end() {
			delete(m.last, p)
		}
	}
}

// put does what a writing call does, if its bytes are there, and tells what it answers.
func (m *store) put(p uint64, b []byte) api.Errno {
	if !areThere(small.Base, m.end(), p, uint64(len(b))) {
		return api.EFAULT
	}
	for i, v := range b {
		m.last[p+uint64(i)] = v
	}
	return api.OK
}

// get tells what a reading call tells.
func (m *store) get(p, n uint64) ([]byte, api.Errno) {
	if !areThere(small.Base, m.end(), p, n) {
		return nil, api.EFAULT
	}
	b := make([]byte, n)
	for i := range b {
		b[i] = m.last[p+uint64(i)]
	}
	return b, api.OK
}

func (m *store) all() []byte {
	b, _ := m.get(small.Base, m.end()-small.Base)
	return b
}

// TestHoldsLast: whatever the calls, a byte holds what was put there last, or 0 (P2.5).
func TestHoldsLast(t *testing.T) {
	for seed := range int64(6) {
		r := rand.New(rand.NewSource(seed))
		s, m := newSpace(t, small, 0), &store{last: map[uint64]byte{}}
		for range 3000 {
			playBoth(t, s, m, r)
		}
		checkHolds(t, s, m.all(), "all calls", 0, 0)
	}
}

// playBoth does one call on both, chosen by r, and holds the answers against each other.
func playBoth(t *testing.T, s *mem.Space, m *store, r *rand.Rand) {
	t.Helper()
	p, q := small.Base-4+uint64(r.Intn(16392)), small.Base-4+uint64(r.Intn(16392))
	n := uint64(r.Intn(60))
	switch r.Intn(9) {
	case 0:
		playRegions(t, s, m, r)
	case 1:
		v := byte(r.Intn(256))
		want(t, "SetByte", s.SetByte(p, v), m.put(p, []byte{v}))
	case 2:
		v := r.Uint64()
		b := make([]byte, 8)
		for i := range b {
			b[i] = byte(v >> (8 * i))
		}
		want(t, "SetWord", s.SetWord(p, v), m.put(p, b))
	case 3:
		v := byte(r.Intn(256))
		want(t, "Fill", s.Fill(p, n, v), m.put(p, bytes.Repeat([]byte{v}, int(n))))
	case 4:
		if r.Intn(2) == 0 {
			q = p + n/2 // else few overlap
		}
		b, e := m.get(q, n)
		if e == api.OK {
			e = m.put(p, b)
		}
		want(t, "Copy", s.Copy(p, q, n), e)
	case 5:
		b := make([]byte, n)
		r.Read(b)
		want(t, "Write", s.Write(p, b), m.put(p, b))
	default:
		playReads(t, s, m, p, n)
	}
}

func playRegions(t *testing.T, s *mem.Space, m *store, r *rand.Rand) {
	t.Helper()
	if n := r.Intn(6) - 1; r.Intn(3) == 0 {
		e := api.EINVAL
		if 0 <= n && n <= m.regions {
			m.drop(n)
			e = api.OK
		}
		want(t, "Decommit", s.Decommit(n), e)
	} else if first, e := s.Commit(n < 0); n < 0 || m.regions == small.Limit {
		want(t, "Commit that is refused", e, api.ENOMEM)
	} else if m.regions++; e != api.OK || first != m.end()-8192 {
		t.Fatalf("Commit: %d, %v", first, e)
	}
	if s.Regions() != m.regions || s.End() != m.end() {
		t.Fatalf("%d regions, End %d; not %d, %d", s.Regions(), s.End(), m.regions, m.end())
	}
	checkHolds(t, s, m.all(), "Commit or Decommit", 0, 0)
}

func playReads(t *testing.T, s *mem.Space, m *store, p, n uint64) {
	t.Helper()
	b, e := m.get(p, n)
	if got, errno := s.Read(p, n); errno != e || !bytes.Equal(got, b) {
		t.Fatalf("Read(%d, %d): %v, %v; not %v, %v", p, n, got, errno, b, e)
	}
	b, e = m.get(p, 1)
	if v, errno := s.Byte(p); errno != e || e == api.OK && v != b[0] {
		t.Fatalf("Byte(%d): %d, %v; not %v, %v", p, v, errno, b, e)
	}
	b, e = m.get(p, 8)
	sum := uint64(0)
	for i, v := range b {
		sum += uint64(v) << (8 * i)
	}
	if v, errno := s.Word(p); errno != e || v != sum {
		t.Fatalf("Word(%d): %x, %v; not %x, %v", p, v, errno, sum, e)
	}
}
