package dict_test

import (
	"testing"

	"croft/api"
)

// P19.1, by hand: each word of the row and of the entries. The hash of a is 0xaf63dc4c8601ec8c, that of b 0xaf63df4c8601f1a5, that of no bytes 0xcbf29ce484222325.
func TestWordsByHand(t *testing.T) {
	x, h := begin(t, example())
	wantsWords(t, "the row", h, 65536, 0, 0, 0, 0, 0, 0, 0, 0)

	sets(t, x, "a", "xy") // 65600
	wantsWords(t, "the row", h, 65536, 0, 0, 0, 0, 65600, 0, 0, 0)
	wantsEntry(t, h, 65600, 0, 0, 0, "a", "xy")

	sets(t, x, "b", "") // 65664
	wantsWords(t, "the row", h, 65536, 0, 0, 0, 0, 65600, 65664, 0, 0)
	wantsEntry(t, h, 65600, 0, 0, 65664, "a", "xy")
	wantsEntry(t, h, 65664, 0, 65600, 0, "b", "")

	sets(t, x, "", "bytes without a key") // 65728, at b's place
	wantsWords(t, "the row", h, 65536, 0, 0, 0, 0, 65600, 65728, 0, 0)
	wantsEntry(t, h, 65600, 0, 0, 65664, "a", "xy")
	wantsEntry(t, h, 65664, 0, 65600, 65728, "b", "")
	wantsEntry(t, h, 65728, 65664, 65664, 0, "", "bytes without a key")

	sets(t, x, "b", "a value of another length") // 69632, of 128 bytes
	wantsWords(t, "the row", h, 65536, 0, 0, 0, 0, 65600, 65728, 0, 0)
	wantsEntry(t, h, 65600, 0, 0, 69632, "a", "xy")
	wantsEntry(t, h, 69632, 0, 65600, 65728, "b", "a value of another length")
	wantsEntry(t, h, 65728, 69632, 69632, 0, "", "bytes without a key")
	wantsLive(t, h, api.Block{P: 65536, Size: 64}, api.Block{P: 65600, Size: 64}, api.Block{P: 65728, Size: 64}, api.Block{P: 69632, Size: 128})

	deletes(t, x, "")
	wantsWords(t, "the row", h, 65536, 0, 0, 0, 0, 65600, 69632, 0, 0)
	wantsEntry(t, h, 65600, 0, 0, 69632, "a", "xy")
	wantsEntry(t, h, 69632, 0, 65600, 0, "b", "a value of another length")

	deletes(t, x, "a")
	wantsWords(t, "the row", h, 65536, 0, 0, 0, 0, 0, 69632, 0, 0)
	wantsEntry(t, h, 69632, 0, 0, 0, "b", "a value of another length")

	deletes(t, x, "b")
	wantsWords(t, "the row", h, 65536, 0, 0, 0, 0, 0, 0, 0, 0)
	wantsLive(t, h, api.Block{P: 65536, Size: 64})
}

// P19.1: the hash of keys of every length, of every byte, in rows of every length: by the chapter's steps, and by the library's.
func TestPlaces(t *testing.T) {
	row := numbers(1)
	var list []string
	for b := range 256 {
		list = append(list, string([]byte{byte(b)}))
	}
	for n := range 40 {
		list = append(list, row.text(n*n))
	}
	for _, key := range list {
		steps := uint64(14695981039346656037)
		for i := range len(key) {
			steps = (steps ^ uint64(key[i])) * 1099511628211
		}
		if steps != hash(key) {
			t.Fatalf("the hash of %s: %d by steps, %d by the library", short(key), steps, hash(key))
		}
		x, h := begin(t, config(2, 4))
		sets(t, x, key, "value")
		base := h.Config().Base
		for place := range uint64(8) {
			if is := word(t, h, base+8*place) != 0; is != (steps%8 == place) {
				t.Fatalf("the key %s at the place %d: %v", short(key), place, is)
			}
		}
	}
}

// P19.1: how many bytes an entry asks for: 40, and the key's and the value's.
func TestEntryBytes(t *testing.T) {
	c := config(3, 4)
	for _, bytes := range []int{0, 1, 23, 24, 25, 87, 88, 89, 472, 473, 2008, 2009, 4055, 4056, 4057, 8152, 8153, 16344, 16345, 32728} {
		for _, keyBytes := range []int{0, 1, bytes / 2, bytes - 1, bytes} {
			if keyBytes < 0 || keyBytes > bytes {
				continue
			}
			x, h := begin(t, c)
			other := newHeap(t, c)
			takes(t, other, 64)
			p := takes(t, other, uint64(40+bytes))
			key, value := long("key", keyBytes), long("value", bytes-keyBytes)
			sets(t, x, key, value)
			wantsEntry(t, h, p, 0, 0, 0, key, value)
			wantsLive(t, h, other.Live()...)
			wantsAll(t, x, pair{key, value})
		}
	}
}

// P19.1: n words are asked for by Calloc: what lay there is not seen.
func TestRowsOfZeros(t *testing.T) {
	x, h := begin(t, config(0, 16))
	spoil := func(size uint64) {
		for _, p := range fills(h, size, true) {
			for at := uint64(0); at < size; at += 8 {
				h.StoreWord(p+at, 1<<32+64)
			}
			wantsError(t, "the heap's Free", h.Free(p), api.OK)
		}
	}
	list := keys(40)
	for i, key := range list {
		for size := uint64(64); size <= 4096; size *= 2 {
			spoil(size)
		}
		sets(t, x, key, "="+key)
		wantsKeys(t, x, list[:i+1]...)
	}
	wantsNone(t, x, h, "", "key", "key40", "key-1")
	spoil(64)
	x.Drop()
	spoil(64)
	sets(t, x, "key", "=key")
	wantsKeys(t, x, "key")
	y := newTable(t, h)
	wantsNone(t, y, h, list...)
}
