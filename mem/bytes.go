package mem

import "croft/api"

// wordBytes is how many bytes a word has.
const wordBytes = 8

// at gives the n bytes from p on in their place, and throws EFAULT where they are not there. Every call asks it for all its bytes ahead of its first change: so a refused one has changed nothing.
func (s *Space) at(p, n uint64) []byte {
	if n == 0 {
		return nil // at any address
	}
	end := s.End()
	if p < s.base || p > end || n > end-p { // p + n might wrap round
		panic(api.EFAULT)
	}
	from := p - s.base
	return s.bytes[from : from+n]
}

// caught tells what a call answers by what was thrown in it: nothing, or what at throws.
func caught(thrown any) api.Errno {
	if thrown == nil {
		return api.OK
	}
	return api.EFAULT
}

// Byte tells a byte.
func (s *Space) Byte(p uint64) (v byte, e api.Errno) {
	defer func() { e = caught(recover()) }()
	return s.at(p, 1)[0], api.OK
}

// SetByte sets one.
func (s *Space) SetByte(p uint64, v byte) (e api.Errno) {
	defer func() { e = caught(recover()) }()
	s.at(p, 1)[0] = v
	return api.OK
}

// Word tells eight bytes, the lowest first.
func (s *Space) Word(p uint64) (v uint64, e api.Errno) {
	defer func() { e = caught(recover()) }()
	for i, b := range s.at(p, wordBytes) {
		v |= uint64(b) << (8 * i)
	}
	return v, api.OK
}

// SetWord sets eight.
func (s *Space) SetWord(p, v uint64) (e api.Errno) {
	defer func() { e = caught(recover()) }()
	there := s.at(p, wordBytes)
	for i := range there {
		there[i] = byte(v >> (8 * i))
	}
	return api.OK
}

// Fill sets n bytes to one value.
func (s *Space) Fill(p, n uint64, v byte) (e api.Errno) {
	defer func() { e = caught(recover()) }()
	there := s.at(p, n)
	for i := range there {
		there[i] = v
	}
	return api.OK
}

// Copy copies n bytes.
func (s *Space) Copy(to, from, n uint64) (e api.Errno) {
	defer func() { e = caught(recover()) }()
	there, source := s.at(to, n), s.at(from, n)
	copy(there, source) // of stretches that overlap, too, it takes what was there ahead
	return api.OK
}

// Read tells n bytes.
func (s *Space) Read(p, n uint64) (b []byte, e api.Errno) {
	defer func() { e = caught(recover()) }()
	there := s.at(p, n)
	b = make([]byte, len(there))
	copy(b, there)
	return b, api.OK
}

// Write sets bytes.
func (s *Space) Write(p uint64, b []byte) (e api.Errno) {
	defer func() { e = caught(recover()) }()
	copy(s.at(p, uint64(len(b))), b)
	return api.OK
}
