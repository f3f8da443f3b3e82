package oracle_test

import (
	"math"
	"testing"

	"croft/api"
	"croft/oracle"
)

// wrongConfigs tells some that may not be.
func wrongConfigs() []api.Config {
	return []api.Config{
		{},
		{Base: 0, Limit: 2, Order: 1},
		{Base: 4096, Limit: 2, Order: 1},
		{Base: 65536 + 1, Limit: 2, Order: 0},
		{Base: 65536 + 2048, Limit: 2, Order: 0},
		{Base: 1 << 19, Limit: 1, Order: 8},
		{Base: 65536, Limit: 0, Order: 1},
		{Base: 65536, Limit: -1, Order: 1},
		{Base: 65536, Limit: 65, Order: 1},
		{Base: 65536, Limit: math.MaxInt, Order: 1},
		{Base: 65536, Limit: math.MinInt, Order: 1},
		{Base: 65536, Limit: 2, Order: -1},
		{Base: 1 << 32, Limit: 1, Order: 9},
		{Base: 1 << 32, Limit: 1, Order: 63},
		{Base: 1 << 32, Limit: 1, Order: 64},
		{Base: 65536, Limit: 2, Order: math.MaxInt},
		{Base: 65536, Limit: 2, Order: math.MinInt},
		{Base: 1 << 32, Limit: 5, Order: 8},
		{Base: 1 << 32, Limit: 33, Order: 5},
		{Base: 1 << 63, Limit: 1, Order: 0},
		{Base: 1<<63 - 4096, Limit: 2, Order: 0},
		{Base: 1<<63 - 3<<13, Limit: 4, Order: 1},
		{Base: 1<<64 - 4096, Limit: 1, Order: 0},
		{Base: 1<<64 - 8192, Limit: 2, Order: 1},
	}
}

// rightConfigs tells some that may, at their edges.
func rightConfigs() []api.Config {
	return []api.Config{
		{Base: 4096, Limit: 1, Order: 0},
		{Base: 4096, Limit: 64, Order: 0},
		{Base: 8192, Limit: 2, Order: 1},
		{Base: 65536, Limit: 64, Order: 4},
		{Base: 1 << 32, Limit: 32, Order: 5},
		{Base: 1 << 20, Limit: 4, Order: 8},
		{Base: 1<<63 - 4096, Limit: 1, Order: 0},
		{Base: 1<<63 - 64*65536, Limit: 64, Order: 4},
		{Base: 1<<63 - 4<<20, Limit: 4, Order: 8},
	}
}

// P11.1, P11.2, P11.3, P11.5: a Config that may not be: EINVAL, 0, false, 0 and false, whatever else is handed in.
func TestWrongConfigs(t *testing.T) {
	for _, c := range wrongConfigs() {
		for _, align := range []uint64{0, 1, 16, 3, 1 << 63} {
			for _, size := range []uint64{0, 16, 4096, math.MaxUint64} {
				if r, e := oracle.Round(c, size, align); r != 0 || e != api.EINVAL {
					t.Errorf("Round(%v, %d, %d): %d, %v", c, size, align, r, e)
				}
			}
		}
		for _, list := range [][]api.Block{nil, {{P: c.Base, Size: 16}}, {{P: 65536, Size: 16}, {P: 65552, Size: 16}}} {
			for _, regions := range []int{-1, 0, 1, 2, c.Limit} {
				wantsSound(t, c, regions, list, 0)
				for _, r := range []uint64{16, 4096, 8192} {
					wantsNoFit(t, c, regions, list, r, false)
				}
			}
			for _, sizes := range [][]uint64{nil, {16}, {4096, 16}} {
				wantsLeast(t, c, list, sizes, -1)
			}
		}
	}
}

// P11.1, P11.2, P11.3, P11.5: Configs at their edges are taken: all of the last region can be live.
func TestRightConfigs(t *testing.T) {
	for _, c := range rightConfigs() {
		if r, e := oracle.Round(c, 0, region(c)); r != region(c) || e != api.OK {
			t.Errorf("Round(%v, 0, R): %d, %v", c, r, e)
		}
		all := cells(c.Base, region(c), c.Limit)
		wantsSound(t, c, c.Limit, all, -1)
		wantsSound(t, c, c.Limit, nil, -1)
		wantsNoFit(t, c, c.Limit, all, 16, true)
		wantsNoFit(t, c, c.Limit, all[1:], region(c), false)
		wantsLeast(t, c, all, nil, c.Limit)
		wantsLeast(t, c, all, []uint64{16}, -1)
		wantsLeast(t, c, nil, several(region(c), c.Limit), c.Limit)
		wantsLeast(t, c, nil, several(region(c), c.Limit+1), -1)
	}
}

// R1: any numbers at all: every call ends, and none panics; and it answers what the document's words say.
func TestAnyConfigs(t *testing.T) {
	odd := []int{math.MinInt, -64, -1, 0, 1, 2, 3, 8, 9, 62, 63, 64, 65, 1 << 32, math.MaxInt}
	may := 0
	for seed := range 60000 {
		row := numbers(seed)
		c := api.Config{Base: row.word() >> row.below(64) << row.below(64), Limit: odd[row.below(len(odd))], Order: odd[row.below(len(odd))]}
		if row.below(3) > 0 {
			c.Base, c.Limit, c.Order = c.Base>>13<<13, row.below(5), row.below(3)
		}
		if mayBe(c) {
			may++
		}
		regions := odd[row.below(len(odd))]
		var list []api.Block
		for range row.below(3) {
			list = append(list, api.Block{P: c.Base + uint64(row.below(3))*4096 - uint64(row.below(2))<<row.below(64), Size: 1<<row.below(64) - uint64(row.below(8)/7)})
		}
		wantsRound(t, c, row.word()>>row.below(64), 1<<row.below(64))
		is := soundBy(c, regions, list)
		wantsSound(t, c, regions, list, is)
		r := row.word() >> row.below(64) << row.below(64)
		wantsNoFit(t, c, regions, list, r, is == -1 && isBlock(c, c.Limit, api.Block{P: c.Base, Size: r}) && noFitBy(c, regions, list, r))
		least(t, c, list, []uint64{row.word() >> row.below(64), r})
	}
	if may < 1000 {
		t.Errorf("only %d Configs may be", may)
	}
}
