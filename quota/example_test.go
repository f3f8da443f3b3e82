package quota_test

import (
	"testing"

	"croft/api"
)

// The table, line by line: the calls go on from one another.
func TestExample(t *testing.T) {
	b := newBank(t, example())
	opens(t, b, 100, 0)
	opens(t, b, most, 1)
	wantsOwners(t, b, 0, 1)

	wants(t, "Malloc(0, 60)", told(b.Malloc(0, 60, false)), answer{65536, api.OK})
	wants(t, "Malloc(0, 33)", told(b.Malloc(0, 33, false)), answer{0, api.EQUOTA})
	wants(t, "Malloc(0, 32)", told(b.Malloc(0, 32, false)), answer{69632, api.OK})
	wantsUsed(t, b, 0, 96, 100)

	wantsFault(t, b, 1, 65536, 1)
	if got, e := b.Read(1, 65536, 0); len(got) != 0 || e != api.OK {
		t.Errorf("Read of no bytes: %v, %v", got, e)
	}
	wantsError(t, "Free(1, 65536)", b.Free(1, 65536), api.EINVAL)
	wantsError(t, "Pass(0, 65536, 1)", b.Pass(0, 65536, 1), api.OK)
	wantsUsed(t, b, 0, 32, 100)
	wantsUsed(t, b, 1, 64, most)

	wants(t, "Realloc(0, 69632, 33)", told(b.Realloc(0, 69632, 33, false)), answer{65600, api.OK})
	wants(t, "Realloc(0, 65600, 65)", told(b.Realloc(0, 65600, 65, false)), answer{0, api.EQUOTA})
	wantsError(t, "Limit(0, 10)", b.Limit(0, 10), api.OK)
	wants(t, "Realloc(0, 65600, 20)", told(b.Realloc(0, 65600, 20, false)), answer{69632, api.OK})
	wantsUsed(t, b, 0, 32, 10)

	wantsError(t, "Pass(1, 65536, 0)", b.Pass(1, 65536, 0), api.EQUOTA)
	closes(t, b, 1, 1)
	if got, e := b.Close(1); got != 0 || e != api.EINVAL {
		t.Errorf("Close(1) once more: %d, %v", got, e)
	}
	opens(t, b, 5, 1)
	wantsLive(t, b, api.Block{P: 69632, Size: 32})
}
