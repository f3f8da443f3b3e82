package dict_test

import (
	"strconv"
	"testing"

	"croft/api"
)

// P19.3: key and value together just MaxData bytes, and one more: of a new key, of one that is there, of a dropped table; whichever of the two is long. Nothing else is told of it.
func TestLimit(t *testing.T) {
	x, h := begin(t, config(5, 4))
	for _, keyBytes := range []int{0, 1, 32768, 65535, 65536} {
		key, value := long("key"+strconv.Itoa(keyBytes), keyBytes), long("value", 65536-keyBytes)
		refusesSet(t, x, h, key, value+"!", false, api.ELIMIT)
		refusesSet(t, x, h, key, value+"!", true, api.ELIMIT)
		refusesSet(t, x, h, key+"!", value, false, api.ELIMIT)
		sets(t, x, key, value)
		refusesSet(t, x, h, key, value+"!", false, api.ELIMIT)
		wantsAll(t, x, pair{key, value})
		if keyBytes < 65535 {
			sets(t, x, key, "s")
			refusesSet(t, x, h, key, value+"!", true, api.ELIMIT)
			sets(t, x, key, value)
		}
		wantsAll(t, x, pair{key, value})
		x.Drop()
		refusesSet(t, x, h, key, value+"!", false, api.ELIMIT)
		refusesSet(t, x, h, long("", 1<<20), long("", 1<<20), false, api.ELIMIT)
	}
}

// P19.3, R2: entries that are too big for a region; that comes ahead of no room, and behind the limit.
func TestTooBig(t *testing.T) {
	for order := range 5 {
		c := config(order, 3)
		room := regionBytes(c) - 40
		for _, keyBytes := range []int{0, 1, room / 2, room} {
			x, h := begin(t, c)
			key, value := long("key", keyBytes), long("value", room-keyBytes)
			refusesSet(t, x, h, key, value+"!", false, api.ETOOBIG)
			refusesSet(t, x, h, key, value+"!", true, api.ETOOBIG)
			refusesSet(t, x, h, key+"!", value, true, api.ETOOBIG)
			refusesSet(t, x, h, key, value, true, api.ENOMEM)
			sets(t, x, key, value)
			refusesSet(t, x, h, key, value+"!", false, api.ETOOBIG)
			refusesSet(t, x, h, "other", long("", 65536), true, api.ELIMIT)
			refusesSet(t, x, h, "other", long("", 65531), true, api.ETOOBIG)
			wantsAll(t, x, pair{key, value})
			sets(t, x, "other", "=other")
			wantsAll(t, x, pair{key, value}, pair{"other", "=other"})
		}
	}
}

// P19.3: a value of the same length is written where the old one is: nothing is asked for, however full the heap is.
func TestSameLength(t *testing.T) {
	x, h := begin(t, config(0, 1))
	values := map[string][]string{
		"a":    {"1234567", "7654321", "\x00\x00\x00\x00\x00\x00\x00"},
		"":     {"of no key", "of no KEY", "OF NO key"},
		"none": {"", "", ""},
		"long": {long("1", 20), long("2", 20), long("3", 20)},
	}
	for _, key := range []string{"a", "", "none", "long"} {
		sets(t, x, key, values[key][0])
	}
	fills(h, 64, true)
	refusesSet(t, x, h, "a", "123456", false, api.ENOMEM)
	refusesSet(t, x, h, "b", "", false, api.ENOMEM)
	live := h.Live()
	for i := range 3 {
		for _, key := range []string{"long", "a", "", "none"} {
			wantsError(t, "Set", set(x, key, values[key][i], i%2 == 0), api.OK)
			wantsGet(t, x, key, values[key][i])
		}
		wantsLive(t, h, live...)
	}
	wantsAll(t, x, pair{"a", values["a"][2]}, pair{"", values[""][2]}, pair{"none", ""}, pair{"long", values["long"][2]})
}

// P19.3: with another length, even by which the block stays of one size, a new entry is asked for while the old one is live; it takes its place, and the old one is freed.
func TestAnotherLength(t *testing.T) {
	x, h := begin(t, example())
	setsAll(t, x, "a", "b", "c") // 65600, 65664, 65728
	for n, values := range [][2]string{{"12", "1"}, {"1", ""}, {"", "123456"}, {"123456", long("", 23)}} {
		sets(t, x, "b", values[0])
		at := word(t, h, 65600+16)
		sets(t, x, "b", values[1])
		now := word(t, h, 65600+16)
		if at == now {
			t.Fatalf("%d: the entry lies where the old one did", n)
		}
		if _, e := h.UsableSize(at); e != api.EINVAL {
			t.Fatalf("%d: the old entry is live", n)
		}
		wantsEntry(t, h, now, 0, 65600, 65728, "b", values[1])
		wantsAll(t, x, pair{"a", "=a"}, pair{"b", values[1]}, pair{"c", "=c"})
	}
}

// P19.3: a Set of another length that is refused changes nothing: the old value stays, and its place; shorter or longer, denied or at the limit of the regions.
func TestAnotherLengthRefused(t *testing.T) {
	x, h := begin(t, config(1, 2))
	setsAll(t, x, "a", "b", "c")
	sets(t, x, "big", long("", 5000)) // a region of its own
	for _, key := range []string{"a", "b", "c"} {
		refusesSet(t, x, h, key, long("", 8152-len(key)), true, api.ENOMEM)
		refusesSet(t, x, h, key, long("", 8152-len(key)), false, api.ENOMEM)
		refusesSet(t, x, h, key, long("", 8153-len(key)), false, api.ETOOBIG)
	}
	refusesSet(t, x, h, "big", long("", 4999), false, api.ENOMEM)
	fills(h, 4096, true)
	fills(h, 64, true)
	for _, key := range []string{"a", "b", "c", "big"} {
		for _, value := range []string{"", "1", long("", 20), long("", 21), long("", 4900)} {
			refusesSet(t, x, h, key, value, false, api.ENOMEM)
			refusesSet(t, x, h, key, value, true, api.ENOMEM)
		}
	}
	wantsAll(t, x, pair{"a", "=a"}, pair{"b", "=b"}, pair{"c", "=c"}, pair{"big", long("", 5000)})
}

// P19.3, R2: a new key that is refused, in a table with a row: denied without a place, at the limit of the regions.
func TestNewKeyRefused(t *testing.T) {
	x, h := begin(t, config(0, 2))
	refusesSet(t, x, h, "a", long("", 100), true, api.ENOMEM) // no page for cells of 256 bytes
	sets(t, x, "a", long("", 100))
	for _, deny := range []bool{true, false} {
		fills(h, 64, true)
		refusesSet(t, x, h, "b", "", deny, api.ENOMEM)
		refusesSet(t, x, h, "", "", deny, api.ENOMEM)
		refusesSet(t, x, h, "b", long("", 4056), deny, api.ETOOBIG)
	}
	wantsError(t, "Set", set(x, "b", long("", 100), true), api.OK) // the second page has such cells
	wantsAll(t, x, pair{"a", long("", 100)}, pair{"b", long("", 100)})
}

// P19.3: a new key in a table without a row: the row comes ahead of the entry, and is freed again where that is refused; a region that came for it stays.
func TestNewKeyWithoutRow(t *testing.T) {
	x, h := begin(t, config(0, 2))
	x.Drop()
	h.Trim()
	refusesSet(t, x, h, "a", "", true, api.ENOMEM) // the row is refused

	wantsError(t, "Set", set(x, "a", long("", 4056), false), api.ETOOBIG) // the row came, and a region
	wantsLive(t, h)
	wantsAll(t, x)
	if got := h.Stats(); got.H != 4096 {
		t.Fatalf("the heap's Stats: %+v", got)
	}
	refusesSet(t, x, h, "a", long("", 4056), false, api.ETOOBIG)
	refusesSet(t, x, h, "a", long("", 2009), true, api.ENOMEM) // the row takes the only page

	takes(t, h, 4096)
	refusesSet(t, x, h, "a", "", true, api.ENOMEM)
	wantsError(t, "Set", set(x, "a", long("", 2009), false), api.ENOMEM) // the row comes by the last region, the entry does not
	if got := h.Stats(); got.H != 8192 || got.Blocks != 1 {
		t.Fatalf("the heap's Stats: %+v", got)
	}
	wantsAll(t, x)
	sets(t, x, "a", "=a")
	wantsKeys(t, x, "a")
	wantsWords(t, "the row", h, 1<<32+4096, 0, 0, 0, 0, 1<<32+4096+64, 0, 0, 0)
}

// P19.3, R2: row and entry are both refused: too big comes first. Where the row alone is refused, a place for the entry helps nothing.
func TestRowAndEntryRefused(t *testing.T) {
	x, h := begin(t, config(0, 1))
	x.Drop()
	h.Trim()
	refusesSet(t, x, h, "a", long("", 4056), true, api.ETOOBIG)
	refusesSet(t, x, h, "a", long("", 4055), true, api.ENOMEM)
	takes(t, h, 256)
	for _, deny := range []bool{true, false} {
		refusesSet(t, x, h, "a", long("", 4056), deny, api.ETOOBIG)
		refusesSet(t, x, h, "a", long("", 4055), deny, api.ENOMEM)
		refusesSet(t, x, h, "a", long("", 200), deny, api.ENOMEM)
		refusesSet(t, x, h, "a", long("", 65536), deny, api.ELIMIT)
	}
	wantsAll(t, x)
}

// P19.3: each request is denied if the call is, and only then.
func TestDenied(t *testing.T) {
	x, h := begin(t, config(0, 8))
	refusesSet(t, x, h, "a", long("", 2000), true, api.ENOMEM)
	sets(t, x, "a", long("", 2000))
	wantsError(t, "Set", set(x, "b", long("", 2000), true), api.OK)
	refusesSet(t, x, h, "c", long("", 2000), true, api.ENOMEM)
	refusesSet(t, x, h, "b", long("", 1999), true, api.ENOMEM)
	sets(t, x, "b", long("", 1999))
	if got := h.Stats(); got.H != 3*4096 {
		t.Fatalf("the heap's Stats: %+v", got)
	}
}

// P19.3, P19.4: the empty key is a key, the empty value a value; nil and an empty list are one; what differs in one byte, in its length, by bytes 0, is another key.
func TestKeys(t *testing.T) {
	x, h := begin(t, config(3, 8))
	wantsNone(t, x, h, "")
	wantsError(t, "Set", x.Set(nil, nil, false), api.OK)
	wantsAll(t, x, pair{"", ""})
	wantsError(t, "Set", x.Set([]byte{}, []byte{}, true), api.OK)
	wantsAll(t, x, pair{"", ""})
	if got, is := x.Get(nil); !is || len(got) != 0 {
		t.Fatalf("Get(nil): %v, %v", got, is)
	}
	want := []pair{{"", ""}}
	for _, key := range []string{"\x00", "\x00\x00", "a", "a\x00", "\x00a", "b", "ab", "ba", "\xff", "\xff\xff", "ä", long("", 3000), long("", 3001), long("b", 3000), long("", 2999) + "+"} {
		wantsNone(t, x, h, key)
		sets(t, x, key, "of "+key)
		want = append(want, pair{key, "of " + key})
		wantsAll(t, x, want...)
	}
	if !x.Delete(nil) || x.Delete(nil) || x.Delete([]byte{}) {
		t.Fatal("Delete(nil)")
	}
	wantsAll(t, x, want[1:]...)
}
