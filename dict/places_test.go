package dict_test

import (
	"testing"
)

// orders tells the list in every order.
func orders(list []string) [][]string {
	if len(list) < 2 {
		return [][]string{list}
	}
	var all [][]string
	for i, first := range list {
		rest := append(append([]string{}, list[:i]...), list[i+1:]...)
		for _, one := range orders(rest) {
			all = append(all, append([]string{first}, one...))
		}
	}
	return all
}

// comes is a table with keys of one place, and others beside them, at other places.
func comes(t *testing.T, list, beside []string) *both {
	t.Helper()
	x := newBoth(t, config(1, 4), 1)
	for i, key := range list {
		x.set(0, key, "=", false)
		x.set(0, beside[i], "", false)
		x.check()
	}
	return x
}

// P19.1, P19.3, P19.4: two and three keys of one place, in every order of coming; each of them, the first, the midst and the last of its list, is set anew with the same length and with another, and deleted; then a second one; what was deleted comes again.
func TestOnePlace(t *testing.T) {
	for many := 2; many <= 3; many++ {
		list, beside := keysAt(8, 6, many), keysAt(8, 1, many)
		does := []func(*both, string){
			func(x *both, key string) { x.set(0, key, "+", false) },
			func(x *both, key string) { x.set(0, key, "longer", false) },
			func(x *both, key string) { x.set(0, key, "", false) },
			func(x *both, key string) { x.remove(0, key) },
		}
		for _, order := range orders(list) {
			for _, first := range list {
				for _, second := range list {
					for i, one := range does {
						for j, other := range does {
							x := comes(t, order, beside)
							one(x, first)
							x.check()
							other(x, second)
							x.check()
							if i == 3 || j == 3 {
								x.set(0, first, "again", false)
								x.check()
							}
							for _, key := range list {
								x.get(0, key)
								x.remove(0, key)
								x.check()
							}
							x.checkHeap()
						}
					}
				}
			}
		}
	}
}

// P19.4: four keys of one place, deleted in every order.
func TestOnePlaceDeleted(t *testing.T) {
	list, beside := keysAt(8, 0, 4), keysAt(8, 7, 4)
	for _, order := range orders(list) {
		x := comes(t, list, beside)
		for _, key := range order {
			x.remove(0, key)
			x.check()
			x.remove(0, key)
			x.get(0, key)
		}
		x.drop(0)
		x.check()
		x.checkHeap()
	}
}

// P19.4: a key that is not there, at a place without a list and in one with others, of the same length too.
func TestNotThere(t *testing.T) {
	x, h := begin(t, config(1, 4))
	list := keysAt(8, 4, 6)
	setsAll(t, x, list[:3]...)
	wantsNone(t, x, h, list[3:]...)
	wantsNone(t, x, h, keysAt(8, 5, 3)...)
	deletes(t, x, list[1])
	wantsNone(t, x, h, list[1])
	wantsKeys(t, x, list[0], list[2])
}
