package trace_test

import (
	"testing"

	"croft/api"
)

// The table, line by line: the calls go on from one another.
func TestExample(t *testing.T) {
	s, h := begin(t, example())
	refusesMake(t, s, h, -1, 0, false, api.EINVAL)
	refusesMake(t, s, h, 0, 0, true, api.ENOMEM)
	refusesMake(t, s, h, 600, 0, false, api.ETOOBIG)
	wants(t, "Get", told(s.Get(65536, 0)), answer{0, api.EINVAL})

	wants(t, "Make", told(s.Make(1, 8, false)), answer{65536, api.OK})
	wants(t, "Make", told(s.Make(1, 0, false)), answer{65552, api.OK})
	wants(t, "Make", told(s.Make(0, 3, false)), answer{65568, api.OK})

	puts(t, s, 65536, 0, 65552)
	refusesWord(t, s, h, 65536, 1)
	refusesPut(t, s, h, 65536, 0, 65537)
	puts(t, s, 65552, 0, 65536)
	wantsWord(t, s, 65536, 0, 65552)

	writes(t, s, 65536, 0, []byte{1, 2, 3})
	wantsError(t, "Write", s.Write(65536, 6, []byte{1, 2, 3}), api.EFAULT)
	wantsBytes(t, s, 65536, 0, []byte{1, 2, 3, 0, 0, 0, 0, 0})

	roots(t, s, "a", 65536)
	wantsError(t, "Root", s.Root("a", 7), api.EINVAL)
	weakens(t, s, 65568, 1)
	weakens(t, s, 65552, 2)
	wantsWeak(t, s, 65568, 65552)

	wantsSwept(t, s, 1, 16)
	wantsWeak(t, s, 0, 65552)
	wantsObjects(t, s, 65536, 65552)

	wants(t, "Make", told(s.Make(0, 1, false)), answer{65568, api.OK})
	wantsWeak(t, s, 0, 65552)

	finals(t, s, 65552)
	unroots(t, s, "a")
	wantsSwept(t, s, 1, 16, 65552)
	wantsWeak(t, s, 0, 0)
	wantsObjects(t, s, 65536, 65552)

	wantsSwept(t, s, 2, 32)
	wantsObjects(t, s)
}

// DOC.md's tenth example of the whole.
func TestExampleOfTheWhole(t *testing.T) {
	s, h := begin(t, api.Config{Base: 65536, Limit: 4, Order: 1})
	wants(t, "Make", told(s.Make(1, 0, false)), answer{65536, api.OK})
	wants(t, "Make", told(s.Make(1, 0, false)), answer{65552, api.OK})
	wantsSwept(t, s, 2, 32)
	wantsLive(t, h)
}
