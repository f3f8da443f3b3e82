package oracle_test

import (
	"testing"

	"croft/api"
	"croft/oracle"
)

// example is the Config of the chapter's table: R is 8192.
func example() api.Config { return api.Config{Base: 65536, Limit: 2, Order: 1} }

// The table, its first two rows.
func TestExampleNumbers(t *testing.T) {
	for _, row := range []struct {
		size, align, want uint64
		e                 api.Errno
	}{
		{0, 1, 16, api.OK}, {17, 4, 32, api.OK}, {1, 8192, 8192, api.OK},
		{8193, 1, 0, api.ETOOBIG}, {8193, 3, 0, api.EINVAL}, {1<<63 + 1, 1, 0, api.ETOOBIG},
	} {
		if r, e := oracle.Round(example(), row.size, row.align); r != row.want || e != row.e {
			t.Errorf("Round(c, %d, %d): %d, %v", row.size, row.align, r, e)
		}
	}
	for _, row := range []struct {
		n, size, want uint64
		e             api.Errno
	}{{0, 5, 0, api.OK}, {1 << 32, 1 << 32, 0, api.ETOOBIG}, {1 << 32, 1<<32 - 1, 1<<64 - 1<<32, api.OK}} {
		if p, e := oracle.Product(row.n, row.size); p != row.want || e != row.e {
			t.Errorf("Product(%d, %d): %d, %v", row.n, row.size, p, e)
		}
	}
}

// The table, its third and fourth row.
func TestExampleSound(t *testing.T) {
	wantsSound(t, example(), 1, blocks(65536, 16, 65552, 16), -1)
	wantsSound(t, example(), 1, blocks(65536, 16, 65552, 32), 1)
	wantsSound(t, example(), 1, blocks(65536, 16, 65552, 64), 1)
	wantsSound(t, example(), 1, blocks(73728, 4096), 0)
	wantsSound(t, example(), 2, blocks(65536, 16, 65568, 32, 69632, 32), 1)
	wantsSound(t, example(), 2, nil, -1)
	wantsSound(t, example(), 3, nil, 0)
}

// The table, its fifth and sixth row.
func TestExampleNoFit(t *testing.T) {
	one := blocks(65536, 16)
	wantsNoFit(t, example(), 1, one, 16, false)
	wantsNoFit(t, example(), 1, one, 32, false)
	wantsNoFit(t, example(), 1, one, 4096, false)
	wantsNoFit(t, example(), 1, one, 8192, true)
	wantsNoFit(t, example(), 0, nil, 16, true)
	two := blocks(65536, 16, 69632, 4096)
	wantsNoFit(t, example(), 1, two, 32, true)
	if oracle.Stuck(example(), 1, two, 32, false) || !oracle.Stuck(example(), 1, two, 32, true) {
		t.Error("Stuck: not false, and true if it is denied")
	}
}

// The table, its seventh row.
func TestExampleBound(t *testing.T) {
	for _, row := range [][3]uint64{{16, 4096, 32}, {2048, 4096, 16}, {8192, 8192, 16}} {
		if c, m := oracle.Bound(row[0]); c != row[1] || m != row[2] {
			t.Errorf("Bound(%d): %d, %d", row[0], c, m)
		}
	}
}

// The table, its last two rows.
func TestExampleLeast(t *testing.T) {
	one := blocks(69632, 16)
	wantsLeast(t, example(), nil, []uint64{8192, 4096}, 2)
	wantsLeast(t, example(), nil, []uint64{16, 32, 2048}, 2)
	wantsLeast(t, example(), one, []uint64{8192}, 2)
	wantsLeast(t, example(), one, []uint64{8192, 8192}, -1)
	wantsLeast(t, example(), one, []uint64{16, 4096}, 1)
	wantsLeast(t, example(), nil, nil, 0)
	wantsLeast(t, example(), nil, []uint64{24}, -1)
}
