package bits_test

import (
	"math/big"
	"testing"

	"croft/bits"
)

// Types of one's own, one of each kind.
type (
	own8  uint8
	own16 uint16
	own32 uint32
	own64 uint64
)

// told is what the calls on one number are to answer, reckoned without a type's end.
type told struct {
	power      bool
	log, count int
	ceil       *big.Int
}

func number(x uint64) *big.Int { return new(big.Int).SetUint64(x) }

func two(n int) *big.Int { return new(big.Int).Lsh(big.NewInt(1), uint(n)) }

func isPower(x *big.Int) bool {
	return x.Sign() > 0 && int(x.TrailingZeroBits()) == x.BitLen()-1
}

func tell(x *big.Int) told {
	r := told{power: isPower(x), log: -1, ceil: two(0)}
	for n := 0; n <= 64; n++ {
		p := two(n)
		if p.Cmp(x) <= 0 {
			r.log = n
		}
		if p.Cmp(x) < 0 {
			r.ceil = two(n + 1)
		}
		r.count += int(x.Bit(n))
	}
	return r
}

// held cuts a number to a type of w bits: 0 and false, where it does not hold it.
func held(x *big.Int, w int) (uint64, bool) {
	if x.BitLen() > w {
		return 0, false
	}
	return x.Uint64(), true
}

func checkNumber[T bits.Word](t *testing.T, x T, w int) {
	t.Helper()
	want := tell(number(uint64(x)))
	if got := bits.IsPower(x); got != want.power {
		t.Errorf("%T: IsPower(%d): %v", x, x, got)
	}
	if got := bits.Log(x); got != want.log {
		t.Errorf("%T: Log(%d): %d, not %d", x, x, got, want.log)
	}
	if got := bits.Count(x); got != want.count {
		t.Errorf("%T: Count(%d): %d, not %d", x, x, got, want.count)
	}
	ceil, in := held(want.ceil, w)
	if got, ok := bits.Ceil(x); uint64(got) != ceil || ok != in {
		t.Errorf("%T: Ceil(%d): %d, %v, not %d, %v", x, x, got, ok, ceil, in)
	}
}

func checkMultiples[T bits.Word](t *testing.T, x, a T, w int) {
	t.Helper()
	down, downIn, up, upIn := uint64(0), false, uint64(0), false
	if bigA := number(uint64(a)); isPower(bigA) {
		lo := new(big.Int).Div(number(uint64(x)), bigA)
		lo.Mul(lo, bigA)
		hi := new(big.Int).Set(lo)
		if lo.Cmp(number(uint64(x))) < 0 {
			hi.Add(lo, bigA)
		}
		down, downIn = held(lo, w)
		up, upIn = held(hi, w)
	}
	if got, ok := bits.Down(x, a); uint64(got) != down || ok != downIn {
		t.Errorf("%T: Down(%d, %d): %d, %v, not %d, %v", x, x, a, got, ok, down, downIn)
	}
	if got, ok := bits.Up(x, a); uint64(got) != up || ok != upIn {
		t.Errorf("%T: Up(%d, %d): %d, %v, not %d, %v", x, x, a, got, ok, up, upIn)
	}
}

// checkConsequences holds the calls against each other, as P1.8 does.
func checkConsequences[T bits.Word](t *testing.T, x, a T) {
	t.Helper()
	if c, ok := bits.Ceil(x); ok && (!bits.IsPower(c) || x != 0 && c/2 >= x || c < x) {
		t.Errorf("%T: Ceil(%d): %d", x, x, c)
	}
	if x != 0 {
		if p := T(1) << bits.Log(x); p > x || x-p >= p {
			t.Errorf("%T: Log(%d): %d", x, x, bits.Log(x))
		}
	}
	up, ok := bits.Up(x, a)
	down, _ := bits.Down(x, a)
	if ok && up-down != 0 && up-down != a {
		t.Errorf("%T: Up(%d, %d) less Down: %d", x, x, a, up-down)
	}
}

// edges tells, for a type of w bits, 0, its end, and all numbers close to a power of 2 or halfway between two.
func edges[T bits.Word](w int) []T {
	end := ^T(0)
	list := []T{0, end, end - 1, end / 3, end / 5, end / 7}
	for n := range w {
		p := T(1) << n
		list = append(list, p-1, p, p+1, p+p/2, end-p)
	}
	return list
}

func checkKind[T bits.Word](t *testing.T, w int) {
	t.Helper()
	list := edges[T](w)
	for _, x := range list {
		checkNumber(t, x, w)
		for _, a := range list {
			checkMultiples(t, x, a, w)
			checkConsequences(t, x, a)
		}
	}
}

// P1.1, P1.2, P1.3, P1.8: at the edges of all kinds, and of types of one's own.
func TestNumbersOfAllKinds(t *testing.T) {
	checkKind[uint8](t, 8)
	checkKind[uint16](t, 16)
	checkKind[uint32](t, 32)
	checkKind[uint64](t, 64)
	checkKind[own8](t, 8)
	checkKind[own16](t, 16)
	checkKind[own32](t, 32)
	checkKind[own64](t, 64)
}

// P1.1, P1.2, P1.3, P1.8, R1: the least kind whole, every x with every a.
func TestNumbersOfAByte(t *testing.T) {
	for x := range 256 {
		checkNumber(t, uint8(x), 8)
		for a := range 256 {
			checkMultiples(t, uint8(x), uint8(a), 8)
			checkConsequences(t, uint8(x), uint8(a))
		}
	}
}

// P1.1, P1.2: all numbers of the next kind.
func TestNumbersOfTwoBytes(t *testing.T) {
	for x := range 1 << 16 {
		checkNumber(t, uint16(x), 16)
	}
}

// answer is what a call that may be refused answers.
type answer struct {
	v  uint64
	ok bool
}

func pair[T bits.Word](v T, ok bool) answer { return answer{uint64(v), ok} }

// The chapter's table of examples, numbers.
func TestExamplesOfNumbers(t *testing.T) {
	for x, want := range map[uint8]bool{0: false, 1: true, 12: false, 128: true} {
		if got := bits.IsPower(x); got != want {
			t.Errorf("IsPower(%d): %v", x, got)
		}
	}
	for x, want := range map[uint16]int{0: -1, 1: 0, 255: 7, 256: 8} {
		if got := bits.Log(x); got != want {
			t.Errorf("Log(%d): %d", x, got)
		}
	}
	if got := bits.Count(uint8(255)); got != 8 {
		t.Errorf("Count(255): %d", got)
	}
	if got := bits.Count(uint64(1<<63 + 1)); got != 2 {
		t.Errorf("Count(2^63 + 1): %d", got)
	}
	for _, row := range []struct {
		call      string
		got, want answer
	}{
		{"Ceil(0)", pair(bits.Ceil(uint8(0))), answer{1, true}},
		{"Ceil(5)", pair(bits.Ceil(uint8(5))), answer{8, true}},
		{"Ceil(128)", pair(bits.Ceil(uint8(128))), answer{128, true}},
		{"Ceil(129) of 8 bits", pair(bits.Ceil(uint8(129))), answer{0, false}},
		{"Ceil(129) of 16 bits", pair(bits.Ceil(uint16(129))), answer{256, true}},
		{"Up(5, 4)", pair(bits.Up(uint8(5), 4)), answer{8, true}},
		{"Up(8, 4)", pair(bits.Up(uint8(8), 4)), answer{8, true}},
		{"Up(5, 6)", pair(bits.Up(uint8(5), 6)), answer{0, false}},
		{"Up(250, 16)", pair(bits.Up(uint8(250), 16)), answer{0, false}},
		{"Down(250, 16)", pair(bits.Down(uint8(250), 16)), answer{240, true}},
		{"Down(3, 0)", pair(bits.Down(uint8(3), 0)), answer{0, false}},
	} {
		if row.got != row.want {
			t.Errorf("%s: %v, not %v", row.call, row.got, row.want)
		}
	}
}
