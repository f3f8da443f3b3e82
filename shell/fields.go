package shell

import (
	"math"
	"strings"
)

// What stands in forms; mayDeny may be left out at a line's end.
const (
	nameField    = "NAME"
	numberField  = "N"
	addressField = "ADDRESS"
	hexField     = "HEX"
	mayDeny      = "!"
)

// The marks of words.
const (
	blank    = " "
	noBytes  = "-"
	digits   = "0123456789abcdef" // of bytes
	letters  = "abcdefghijklmnopqrstuvwxyz"
	longName = 16
)

// fields are what the words behind a line's first one tell, those of one kind in the order in which they stand.
type fields struct {
	names     []string
	it        thing // what the first name stands for
	numbers   []uint64
	places    []place
	addresses []uint64 // what the places come to
	data      [][]byte
	deny      bool
}

// place is an ADDRESS as it is written: so far from 0, or from what the answer number ref tells.
type place struct {
	ref int
	p   uint64
}

// fieldsOf reads words as a form tells them, if they are of it.
func fieldsOf(form string, words []string) (f fields, ok bool) {
	kinds := strings.Fields(form)
	if last := len(kinds) - 1; last == len(words) && kinds[last] == mayDeny {
		kinds = kinds[:last]
	}
	if len(kinds) != len(words) {
		return fields{}, false
	}
	for i, kind := range kinds {
		if !f.read(kind, words[i]) {
			return fields{}, false
		}
	}
	return f, true
}

// read reads one word as a field of a kind, if it is one.
func (f *fields) read(kind, word string) bool {
	switch kind {
	case nameField:
		f.names = append(f.names, word)
		return isName(word)
	case numberField:
		n, ok := numberOf(word)
		f.numbers = append(f.numbers, n)
		return ok
	case addressField:
		at, ok := placeOf(word)
		f.places = append(f.places, at)
		return ok
	case hexField:
		data, ok := bytesOf(word)
		f.data = append(f.data, data)
		return ok
	}
	f.deny = true
	return word == mayDeny
}

func isName(word string) bool {
	return word != "" && len(word) <= longName && strings.Trim(word, letters) == ""
}

// numberOf tells a number, which is what it is in a line of chapter 12: so such a line tells it. A word has no blank.
func numberOf(word string) (uint64, bool) {
	c, ok := parse(mallocWord, word)
	return c.A, ok
}

// placeOf tells an ADDRESS, likewise.
func placeOf(word string) (place, bool) {
	c, ok := parse(freeWord, word)
	return place{ref: c.Ref, p: c.P}, ok
}

// bytesOf tells the bytes of HEX. There may be more of them than a script's Data may have: what is too much is up to the calls.
func bytesOf(word string) ([]byte, bool) {
	if word == noBytes {
		return nil, true
	}
	if word == "" || len(word)%2 != 0 {
		return nil, false
	}
	data := make([]byte, 0, len(word)/2)
	for i := 0; i < len(word); i += 2 {
		high, low := strings.IndexByte(digits, word[i]), strings.IndexByte(digits, word[i+1])
		if high < 0 || low < 0 {
			return nil, false
		}
		data = append(data, byte(high<<4|low))
	}
	return data, true
}

// hexOf is bytes as HEX.
func hexOf(data []byte) string {
	if len(data) == 0 {
		return noBytes
	}
	word := make([]byte, 0, 2*len(data))
	for _, b := range data {
		word = append(word, digits[b>>4], digits[b&15])
	}
	return string(word)
}

// intOf is a number for a call that takes an int.
func intOf(n uint64) int { return int(min(n, math.MaxInt)) }
