package count_test

import (
	"testing"

	"croft/api"
)

// The table, line by line: the calls go on from one another.
func TestExample(t *testing.T) {
	s, h := begin(t, example())
	refusesMake(t, s, h, -1, 0, false, api.EINVAL)
	refusesMake(t, s, h, 0, 0, true, api.ENOMEM)
	refusesMake(t, s, h, 600, 0, false, api.ETOOBIG)
	refusesObject(t, s, h, 65536)

	wants(t, "Make", told(s.Make(1, 8, false)), answer{65536, api.OK})
	wants(t, "Make", told(s.Make(1, 8, false)), answer{65552, api.OK})
	wants(t, "Make", told(s.Make(2, 0, false)), answer{65568, api.OK})

	puts(t, s, 65536, 0, 65552)
	puts(t, s, 65552, 0, 65568)
	refusesWord(t, s, h, 65536, 1)
	refusesPut(t, s, h, 65536, 0, 7)

	wantsCount(t, s, 2, 65552)
	drops(t, s, 65552)
	refusesDrop(t, s, h, 65552)
	wantsCount(t, s, 1, 65552)
	drops(t, s, 65568)
	wantsObjects(t, s, 65536, 65552, 65568)

	writes(t, s, 65552, 6, []byte{1, 2})
	refusesBytes(t, s, h, 65552, 7, 2, api.EFAULT)
	wantsBytes(t, s, 65552, 5, []byte{0, 1, 2})

	puts(t, s, 65536, 0, 65536)
	wantsObjects(t, s, 65536)
	wantsWord(t, s, 65536, 0, 65536)
	wantsCount(t, s, 2, 65536)

	drops(t, s, 65536)
	wantsObjects(t, s, 65536)
	wantsSwept(t, s, 1, 16)
	wantsObjects(t, s)

	wants(t, "Make", told(s.Make(1, 0, false)), answer{65536, api.OK})
	keeps(t, s, 65536)
	drops(t, s, 65536, 65536)
	wantsObjects(t, s)
	wantsLive(t, h)
}
