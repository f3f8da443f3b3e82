package bits

// maxLength is the greatest length of a set.
const maxLength = 1 << 20

// Set is a set of numbers below its length.
type Set struct {
	length int
	words  []uint64 // just as many as the length needs, all bits past it 0
}

// NewSet makes an empty set of numbers below n.
func NewSet(n int) *Set {
	n = min(max(n, 0), maxLength)
	return &Set{length: n, words: make([]uint64, (n+wordBits-1)/wordBits)}
}

// Of makes a set of words.
func Of(words []uint64, n int) *Set {
	s := NewSet(n)
	copy(s.words, words)
	s.cut()
	return s
}

// cut clears the bits past the length: else they would be counted and told, and be in the set once it is lengthened.
func (s *Set) cut() {
	if used := s.length % wordBits; used != 0 {
		s.words[len(s.words)-1] &= uint64(1)<<used - 1
	}
}

// Len tells the length.
func (s *Set) Len() int { return s.length }

// may tells whether i is a number that the set can hold.
func (s *Set) may(i int) bool { return 0 <= i && i < s.length }

// Get tells whether i is in it.
func (s *Set) Get(i int) bool {
	return s.may(i) && s.words[i/wordBits]>>(i%wordBits)&1 == 1
}

// Put puts i into it, or takes it out.
func (s *Set) Put(i int, in bool) bool {
	if s.Get(i) == in {
		return s.may(i)
	}
	return s.Flip(i)
}

// Flip puts i into it if it is not, or takes it out.
func (s *Set) Flip(i int) bool {
	if !s.may(i) {
		return false
	}
	s.words[i/wordBits] ^= uint64(1) << (i % wordBits)
	return true
}

// Next tells the least number in it from i on.
func (s *Set) Next(i int) int {
	i = max(i, 0)
	if !s.may(i) {
		return -1
	}
	at := i / wordBits
	word := s.words[at] >> (i % wordBits) << (i % wordBits) // those below i don't count
	for word == 0 {
		at++
		if at == len(s.words) {
			return -1
		}
		word = s.words[at]
	}
	return at*wordBits + Log(word&-word)
}

// Count tells how many are in it.
func (s *Set) Count() int {
	count := 0
	for _, word := range s.words {
		count += Count(word)
	}
	return count
}

// Resize changes the length. It lays the set anew, so that a shortened one keeps no room.
func (s *Set) Resize(n int) { *s = *Of(s.words, n) }

// Words tells the set as words.
func (s *Set) Words() []uint64 {
	words := make([]uint64, len(s.words))
	copy(words, s.words)
	return words
}
