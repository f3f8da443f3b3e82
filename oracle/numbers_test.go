package oracle_test

import (
	"math"
	"math/big"
	"testing"

	"croft/api"
	"croft/oracle"
)

// roundBy is P11.1 by its words, the size found by doubling, of numbers without an end.
func roundBy(c api.Config, size, align uint64) (uint64, api.Errno) {
	powers := 0
	for i := range 64 {
		if align == 1<<i {
			powers++
		}
	}
	if !mayBe(c) || powers == 0 {
		return 0, api.EINVAL
	}
	r := big.NewInt(16)
	for r.Cmp(new(big.Int).SetUint64(max(size, align))) < 0 {
		r.Lsh(r, 1)
	}
	if r.Cmp(new(big.Int).SetUint64(region(c))) > 0 {
		return 0, api.ETOOBIG
	}
	return r.Uint64(), api.OK
}

func wantsRound(t *testing.T, c api.Config, size, align uint64) {
	t.Helper()
	want, wantE := roundBy(c, size, align)
	if r, e := oracle.Round(c, size, align); r != want || e != wantE {
		t.Fatalf("Round(%v, %d, %d): %d, %v; not %d, %v", c, size, align, r, e, want, wantE)
	}
}

// nearPowers tells 0, and each power of 2 with those beside it, and the greatest.
func nearPowers() []uint64 {
	list := []uint64{0, math.MaxUint64}
	for i := range 64 {
		list = append(list, 1<<i-1, 1<<i, 1<<i+1)
	}
	return list
}

// P11.1: Round of every Order, at all edges of sizes and aligns: 0, powers of 2 and those beside them, R and 2R among them.
func TestRound(t *testing.T) {
	for order := range 9 {
		c := config(order, 3)
		for _, size := range nearPowers() {
			for _, align := range nearPowers() {
				wantsRound(t, c, size, align)
			}
		}
	}
}

// P11.1: some answers written out: the edges that decide.
func TestRoundEdges(t *testing.T) {
	c := config(3, 2)
	r := uint64(32768)
	for _, row := range []struct {
		size, align, want uint64
		e                 api.Errno
	}{
		{0, 1, 16, api.OK}, {1, 1, 16, api.OK}, {16, 1, 16, api.OK}, {17, 1, 32, api.OK}, {4096, 1, 4096, api.OK}, {4097, 1, 8192, api.OK},
		{r, 1, r, api.OK}, {r + 1, 1, 0, api.ETOOBIG}, {1 << 63, 1, 0, api.ETOOBIG}, {1<<63 + 1, 1, 0, api.ETOOBIG}, {math.MaxUint64, 1, 0, api.ETOOBIG},
		{0, 16, 16, api.OK}, {0, 32, 32, api.OK}, {33, 16, 64, api.OK}, {0, r, r, api.OK}, {r, r, r, api.OK}, {0, 2 * r, 0, api.ETOOBIG}, {5, 1 << 63, 0, api.ETOOBIG},
		{5, 0, 0, api.EINVAL}, {5, 3, 0, api.EINVAL}, {5, 24, 0, api.EINVAL}, {r + 1, 0, 0, api.EINVAL}, {math.MaxUint64, math.MaxUint64, 0, api.EINVAL}, {1, 1<<63 + 1, 0, api.EINVAL},
	} {
		if got, e := oracle.Round(c, row.size, row.align); got != row.want || e != row.e {
			t.Errorf("Round(c, %d, %d): %d, %v", row.size, row.align, got, e)
		}
	}
}

// P11.1: Round of any numbers.
func TestRoundAny(t *testing.T) {
	for seed := range 20000 {
		row := numbers(seed)
		c := config(row.below(9), 4)
		wantsRound(t, c, row.word()>>row.below(64), 1<<row.below(64))
		wantsRound(t, c, row.word()>>row.below(64), row.word()>>row.below(64))
	}
}

func wantsProduct(t *testing.T, n, size uint64) {
	t.Helper()
	all := new(big.Int).Mul(new(big.Int).SetUint64(n), new(big.Int).SetUint64(size))
	want, wantE := uint64(0), api.ETOOBIG
	if all.IsUint64() {
		want, wantE = all.Uint64(), api.OK
	}
	if p, e := oracle.Product(n, size); p != want || e != wantE {
		t.Fatalf("Product(%d, %d): %d, %v; not %d, %v", n, size, p, e, want, wantE)
	}
}

// P11.1: Product at 2^64 - 1, whose divisors are these and what they leave, just above it, and of any numbers.
func TestProduct(t *testing.T) {
	for _, n := range []uint64{1, 3, 5, 15, 17, 255, 257, 641, 65535, 65537, 6700417, 1<<32 - 1, 1<<32 + 1, math.MaxUint64} {
		if p, e := oracle.Product(n, math.MaxUint64/n); p != math.MaxUint64 || e != api.OK {
			t.Errorf("Product(%d, %d): %d, %v", n, math.MaxUint64/n, p, e)
		}
		wantsProduct(t, n, math.MaxUint64/n+1)
		wantsProduct(t, math.MaxUint64/n+1, n)
	}
	if p, e := oracle.Product(1<<63, 2); p != 0 || e != api.ETOOBIG {
		t.Errorf("Product(2^63, 2): %d, %v", p, e)
	}
	for _, n := range nearPowers() {
		for _, size := range nearPowers() {
			wantsProduct(t, n, size)
		}
	}
	row := numbers(1)
	for range 20000 {
		wantsProduct(t, row.word()>>row.below(64), row.word()>>row.below(64))
	}
}

// P11.4: Bound of any r, no power of 2 too.
func TestBound(t *testing.T) {
	for _, r := range append(nearPowers(), 8, 24, 40, 1<<33+5) {
		want, wantM := r, uint64(16)
		if r < 4096 {
			want = 4096
		}
		if r == 16 {
			wantM = 32
		}
		if c, m := oracle.Bound(r); c != want || m != wantM {
			t.Errorf("Bound(%d): %d, %d", r, c, m)
		}
	}
}
