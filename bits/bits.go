// Package bits: powers of two, and sets of numbers as bits: see DOC.md, chapter 1.
package bits

// wordBits is the width of the widest kind. The narrower ones need no width of their own: a shift past their end leaves 0.
const wordBits = 64

// Word is a kind of whole numbers from 0 on.
type Word interface {
	~uint8 | ~uint16 | ~uint32 | ~uint64
}

// IsPower tells whether x is a power of 2.
func IsPower[T Word](x T) bool { return x != 0 && x&(x-1) == 0 }

// Ceil tells the least power of 2 that is not below x.
func Ceil[T Word](x T) (T, bool) {
	if x == 0 {
		return 1, true // x - 1 would wrap round
	}
	power := T(1) << (Log(x-1) + 1)
	return power, power != 0
}

// Log tells the greatest n with 2^n not above x.
func Log[T Word](x T) int {
	for n := range wordBits {
		if x>>n == 0 {
			return n - 1
		}
	}
	return wordBits - 1
}

// Up tells the least multiple of a that is not below x, a being a power of 2.
func Up[T Word](x, a T) (T, bool) {
	down, ok := Down(x, a)
	if !ok || down == x {
		return down, ok
	}
	up := down + a // at most 2^w, which T wraps round to 0
	return up, up != 0
}

// Down tells the greatest multiple of a that is not above x.
func Down[T Word](x, a T) (T, bool) {
	if !IsPower(a) {
		return 0, false
	}
	return x &^ (a - 1), true
}

// Count tells how many bits of x are 1.
func Count[T Word](x T) int {
	count := 0
	for i := range wordBits {
		count += int(x >> i & 1)
	}
	return count
}
