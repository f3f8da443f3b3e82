package bits_test

import (
	"math"
	"slices"
	"testing"

	"croft/bits"
)

const maxLength = 1 << 20

// model is a set as plainly as can be: its length, and what it holds.
type model struct {
	length int
	in     map[int]bool
}

func (m *model) resize(n int) {
	m.length = min(max(n, 0), maxLength)
	for i := range m.in {
		if i >= m.length {
			delete(m.in, i)
		}
	}
}

func (m *model) put(i int, in bool) bool {
	if i < 0 || i >= m.length {
		return false
	}
	delete(m.in, i)
	if in {
		m.in[i] = true
	}
	return true
}

func (m *model) words() []uint64 {
	words := make([]uint64, (m.length+63)/64)
	for i := range m.in {
		words[i/64] |= 1 << (i % 64)
	}
	return words
}

func (m *model) next(i int) int {
	for i = max(i, 0); i < m.length; i++ {
		if m.in[i] {
			return i
		}
	}
	return -1
}

// checkSet holds all that a set tells against the model.
func checkSet(t *testing.T, s *bits.Set, m *model) {
	t.Helper()
	if s.Len() != m.length || s.Count() != len(m.in) || !slices.Equal(s.Words(), m.words()) {
		t.Fatalf("length %d, count %d, words %x; not %d, %d, %x", s.Len(), s.Count(), s.Words(), m.length, len(m.in), m.words())
	}
	for i := -2; i < m.length+66; i++ {
		if s.Get(i) != m.in[i] {
			t.Fatalf("Get(%d): %v", i, s.Get(i))
		}
		if got := s.Next(i); got != m.next(i) {
			t.Fatalf("Next(%d): %d, not %d", i, got, m.next(i))
		}
	}
}

// numbers gives the same long row of numbers each time.
type numbers uint64

func (n *numbers) below(end int) int {
	*n = *n*6364136223846793005 + 1442695040888963407
	return int(uint64(*n) >> 33 % uint64(end))
}

// P1.4 to P1.8: long rows of calls, held against the model behind each.
func TestSetAgainstModel(t *testing.T) {
	for seed := range 20 {
		row := numbers(seed)
		n := row.below(200)
		s, m := bits.NewSet(n), &model{length: n, in: map[int]bool{}}
		for range 200 {
			i := row.below(m.length+20) - 10
			switch row.below(8) {
			case 0:
				n := row.below(300) - 10
				s.Resize(n)
				m.resize(n)
			case 1, 2:
				if got, want := s.Flip(i), m.put(i, !m.in[i]); got != want {
					t.Fatalf("Flip(%d): %v", i, got)
				}
			case 3:
				if got, want := s.Put(i, false), m.put(i, false); got != want {
					t.Fatalf("Put(%d, false): %v", i, got)
				}
			case 4:
				s = bits.Of(s.Words(), s.Len())
			default:
				if got, want := s.Put(i, true), m.put(i, true); got != want {
					t.Fatalf("Put(%d, true): %v", i, got)
				}
			}
			checkSet(t, s, m)
		}
	}
}

// P1.4: lengths that may not be count as the nearest that may, of each call that asks for one.
func TestLengths(t *testing.T) {
	for n, want := range map[int]int{
		math.MinInt: 0, -3: 0, -1: 0, 0: 0, 1: 1, 63: 63, 64: 64, 65: 65,
		maxLength - 1: maxLength - 1, maxLength: maxLength, maxLength + 1: maxLength, 1 << 21: maxLength, math.MaxInt: maxLength,
	} {
		resized := bits.NewSet(100)
		resized.Put(99, true)
		resized.Resize(n)
		for _, s := range []*bits.Set{bits.NewSet(n), bits.Of(nil, n), resized} {
			if s.Len() != want || len(s.Words()) != (want+63)/64 {
				t.Errorf("length %d: %d, %d words", n, s.Len(), len(s.Words()))
			}
		}
		if s := bits.NewSet(n); s.Count() != 0 || s.Next(0) != -1 {
			t.Errorf("a new set of length %d is not empty", n)
		}
	}
}

// P1.5, P1.6: the greatest set, at its ends.
func TestGreatestSet(t *testing.T) {
	s := bits.NewSet(math.MaxInt)
	if s.Put(maxLength, true) || s.Flip(maxLength) || s.Count() != 0 || s.Next(0) != -1 {
		t.Error("it holds a number past its end")
	}
	if !s.Put(maxLength-1, true) || !s.Get(maxLength-1) || s.Next(0) != maxLength-1 || s.Next(maxLength-1) != maxLength-1 || s.Next(maxLength) != -1 {
		t.Errorf("its last number: Next %d", s.Next(0))
	}
	full := bits.Of(slices.Repeat([]uint64{math.MaxUint64}, maxLength/64+1), math.MaxInt)
	if full.Count() != maxLength || full.Next(maxLength-1) != maxLength-1 || full.Next(maxLength) != -1 {
		t.Errorf("full: Count %d", full.Count())
	}
}

// P1.5, P1.6, R1: an i that is not from 0 to the length less 1 is refused, and nothing changes.
func TestNumbersThatAreNone(t *testing.T) {
	for _, n := range []int{0, 1, 63, 64, 65, 70, 128} {
		for _, i := range []int{math.MinInt, math.MinInt + 1, -64, -1, n, n + 1, n + 63, n + 64, maxLength, math.MaxInt} {
			s := bits.Of([]uint64{math.MaxUint64, math.MaxUint64}, n)
			before := s.Words()
			if s.Get(i) || s.Put(i, true) || s.Put(i, false) || s.Flip(i) {
				t.Errorf("length %d: %d was taken", n, i)
			}
			if s.Count() != n || !slices.Equal(s.Words(), before) {
				t.Errorf("length %d: %d changed it: %x", n, i, s.Words())
			}
			want := -1
			if i < 0 && n > 0 {
				want = 0
			}
			if got := s.Next(i); got != want {
				t.Errorf("length %d: Next(%d): %d", n, i, got)
			}
		}
	}
}

// P1.5: Put answers true whether or not it changes anything, and Flip turns each time.
func TestPutAndFlip(t *testing.T) {
	s := bits.NewSet(130)
	for _, i := range []int{0, 1, 63, 64, 127, 128, 129} {
		for _, in := range []bool{true, true, false, false, true} {
			if !s.Put(i, in) || s.Get(i) != in {
				t.Errorf("Put(%d, %v): Get %v", i, in, s.Get(i))
			}
		}
		if !s.Flip(i) || s.Get(i) || !s.Flip(i) || !s.Get(i) {
			t.Errorf("Flip(%d)", i)
		}
	}
	if !slices.Equal(s.Words(), []uint64{1<<63 | 3, 1<<63 | 1, 3}) || s.Count() != 7 {
		t.Errorf("Words %x", s.Words())
	}
}

// P1.4: words that are too few, too many, or hold bits past the length.
func TestOf(t *testing.T) {
	all := uint64(math.MaxUint64)
	for _, row := range []struct {
		words []uint64
		n     int
		want  []uint64
	}{
		{nil, 0, nil},
		{nil, 65, []uint64{0, 0}},
		{[]uint64{}, 64, []uint64{0}},
		{[]uint64{all}, 0, nil},
		{[]uint64{all}, -1, nil},
		{[]uint64{all}, 1, []uint64{1}},
		{[]uint64{5}, 2, []uint64{1}},
		{[]uint64{all}, 63, []uint64{all >> 1}},
		{[]uint64{all}, 64, []uint64{all}},
		{[]uint64{all}, 65, []uint64{all, 0}},
		{[]uint64{all, all}, 64, []uint64{all}},
		{[]uint64{all, all}, 65, []uint64{all, 1}},
		{[]uint64{all, all, all}, 70, []uint64{all, 63}},
		{[]uint64{5, 1 << 63}, 128, []uint64{5, 1 << 63}},
		{[]uint64{9}, 200, []uint64{9, 0, 0, 0}},
	} {
		s := bits.Of(row.words, row.n)
		if !slices.Equal(s.Words(), row.want) || s.Len() != max(row.n, 0) {
			t.Errorf("Of(%x, %d): %x", row.words, row.n, s.Words())
		}
		s.Resize(256)
		if got, want := s.Words(), append(slices.Clone(row.want), make([]uint64, 4)...)[:4]; !slices.Equal(got, want) {
			t.Errorf("Of(%x, %d), lengthened: %x", row.words, row.n, got)
		}
	}
}

// P1.7: what a cut takes is not there again when the set is lengthened.
func TestCutAndLengthened(t *testing.T) {
	for from := range 200 {
		for _, to := range []int{-1, 0, 1, 62, 63, 64, 65, 100, 127, 128, 129, 199, 200, 300} {
			s := bits.Of(slices.Repeat([]uint64{math.MaxUint64}, 4), from)
			stay := min(from, max(to, 0))
			s.Resize(to)
			if s.Len() != max(to, 0) || s.Count() != stay || s.Next(stay) != -1 {
				t.Fatalf("from %d to %d: Len %d, Count %d", from, to, s.Len(), s.Count())
			}
			s.Resize(400)
			if s.Len() != 400 || s.Count() != stay || s.Get(stay) || s.Next(stay) != -1 || stay > 0 && !s.Get(stay-1) {
				t.Fatalf("from %d to %d to 400: Count %d", from, to, s.Count())
			}
			if !s.Put(399, true) || s.Next(stay) != 399 {
				t.Fatalf("from %d to %d to 400: Next %d", from, to, s.Next(stay))
			}
		}
	}
}

// R4: what is handed in is neither changed nor kept, its spare room neither read nor changed.
func TestOfKeepsNothing(t *testing.T) {
	for _, n := range []int{1, 64, 65, 128, 192, 256} {
		room := []uint64{math.MaxUint64, 2, 3, 4}
		s := bits.Of(room[:2], n)
		if s.Get(128) || s.Get(129) || s.Get(194) {
			t.Errorf("length %d: it read spare room", n)
		}
		before := s.Words()
		s.Flip(0)
		s.Resize(300)
		s.Put(299, true)
		if !slices.Equal(room, []uint64{math.MaxUint64, 2, 3, 4}) {
			t.Errorf("length %d: it changed what it was handed: %x", n, room)
		}
		s.Flip(0)
		s.Resize(n)
		clear(room)
		if !slices.Equal(s.Words(), before) {
			t.Errorf("length %d: it kept what it was handed: %x", n, s.Words())
		}
	}
}

// R4, R5: what is answered is new memory, spare room too; two sets have nothing in common.
func TestWordsAreNew(t *testing.T) {
	s := bits.Of([]uint64{7, 7, 7}, 190)
	s.Resize(100)
	first, second := s.Words(), s.Words()
	clear(first[:cap(first)])
	if !slices.Equal(s.Words(), []uint64{7, 7}) || !slices.Equal(second, []uint64{7, 7}) {
		t.Errorf("it handed out what it keeps: %x, %x", s.Words(), second)
	}
	clear(append(second, 1, 2, 3))
	s.Resize(190)
	if !slices.Equal(s.Words(), []uint64{7, 7, 0}) {
		t.Errorf("it handed out its spare room: %x", s.Words())
	}
	last := s.Words()
	s.Put(0, false)
	if last[0] != 7 {
		t.Error("a call changed what was answered ahead of it")
	}
	other := bits.Of(s.Words(), s.Len())
	other.Flip(5)
	other.Resize(3)
	if s.Get(5) || s.Len() != 190 || other.Len() != 3 {
		t.Error("two sets have something in common")
	}
}

// The chapter's table of examples, sets.
func TestExamplesOfSets(t *testing.T) {
	if bits.NewSet(-3).Len() != 0 || bits.NewSet(1<<21).Len() != 1048576 {
		t.Error("lengths")
	}
	s := bits.NewSet(70)
	if !s.Put(69, true) || s.Put(70, true) || !s.Flip(1) || s.Next(-5) != 1 || s.Next(2) != 69 || s.Next(70) != -1 || s.Count() != 2 {
		t.Error("NewSet(70)")
	}
	if !slices.Equal(s.Words(), []uint64{2, 32}) {
		t.Errorf("Words %v", s.Words())
	}
	s.Resize(69)
	if !slices.Equal(s.Words(), []uint64{2, 0}) || s.Count() != 1 {
		t.Errorf("behind Resize(69): %v, %d", s.Words(), s.Count())
	}
	s.Resize(70)
	if s.Get(69) {
		t.Error("behind Resize(70): 69 is in it again")
	}
	u := bits.Of([]uint64{5}, 2)
	if !u.Get(0) || u.Get(2) || !slices.Equal(u.Words(), []uint64{1}) {
		t.Errorf("Of({5}, 2): %v", u.Words())
	}
	if got := bits.Of(nil, 65).Words(); !slices.Equal(got, []uint64{0, 0}) {
		t.Errorf("Of(none, 65): %v", got)
	}
}
