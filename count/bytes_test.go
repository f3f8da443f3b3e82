package count_test

import (
	"bytes"
	"testing"

	"croft/api"
)

// P18.3: at + n just the number of bytes, and one more, for each at; no byte at the end, and one past it.
func TestEachByte(t *testing.T) {
	for _, words := range []int{0, 1, 3} {
		for _, n := range []int{0, 1, 2, 7, 8, 13, 40} {
			s, h := begin(t, example())
			p := makes(t, s, words, n)
			row := numbers(n)
			held := row.bytes(n)
			writes(t, s, p, 0, held)
			for at := range n + 1 {
				wantsBytes(t, s, p, at, held[at:])
				wantsBytes(t, s, p, at, held[at:at])
				refusesBytes(t, s, h, p, at, n-at+1, api.EFAULT)
				refusesBytes(t, s, h, p, at, n-at+2, api.EFAULT)
				for _, far := range []int{top, top - at, top - at + 1, top - 1, 1 << 62, 1 << 40} {
					refusesBytes(t, s, h, p, at, far, api.EFAULT)
				}
				copy(held[at:], row.bytes(n-at))
				writes(t, s, p, at, held[at:])
				wantsBytes(t, s, p, 0, held)
			}
			for _, at := range []int{n + 1, n + 2, n + 8, 1 << 40, 1 << 62, top - 1, top} {
				refusesBytes(t, s, h, p, at, 0, api.EFAULT)
				refusesBytes(t, s, h, p, at, 1, api.EFAULT)
				refusesBytes(t, s, h, p, at, top, api.EFAULT)
				refusesBytes(t, s, h, p, at, top-at+1, api.EFAULT) // the sum wraps round to the least int
			}
			unchanged(t, "Write of no byte", s, h, func() {
				writes(t, s, p, n, nil)
				writes(t, s, p, n, []byte{})
				writes(t, s, p, 0, nil)
			})
		}
	}
}

// P18.3: at or n below 0, each beside all that the other may be; also where the sum is one that may be.
func TestBytesBelowZero(t *testing.T) {
	s, h := begin(t, example())
	p := makes(t, s, 2, 16)
	writes(t, s, p, 0, []byte("all of these stay"[:16]))
	for _, below := range []int{-1, -2, -8, -16, -17, -1 << 32, bottom + 1, bottom} {
		for _, other := range append(edges(), -below, 16-below) {
			refusesBytes(t, s, h, p, below, other, api.EFAULT)
			refusesBytes(t, s, h, p, other, below, api.EFAULT)
		}
	}
}

// P18.3, R2: of no object EINVAL, whatever else is wrong: refusesObject asks it of bytes, too. Of an object whose bytes all are words EFAULT.
func TestBytesOfNone(t *testing.T) {
	s, h := begin(t, example())
	refusesBytes(t, s, h, 65536, -1, -1, api.EINVAL)
	p := makes(t, s, 2, 0)
	refusesObject(t, s, h, noObjects(p)...)
	refusesBytes(t, s, h, p, 0, 1, api.EFAULT)
	refusesBytes(t, s, h, p, -16, 16, api.EFAULT)
	refusesBytes(t, s, h, p, -1, 0, api.EFAULT)
	wantsBytes(t, s, p, 0, nil)
}

// P18.3: the bytes are those behind the words: a Write changes no word, and nothing beside the object, the block's spare bytes neither.
func TestBytesInTheHeap(t *testing.T) {
	for _, words := range []int{0, 1, 2, 5} {
		s, h := begin(t, example())
		before, p, behind := makes(t, s, words, 9), makes(t, s, words, 9), makes(t, s, words, 9)
		for word := range words {
			puts(t, s, p, word, behind)
		}
		size, _ := h.UsableSize(p)
		want, _ := h.Read(p, size)
		copy(want[8*words:], "123456789")
		writes(t, s, p, 0, []byte("123456789"))
		if held, _ := h.Read(p, size); !bytes.Equal(held, want) {
			t.Errorf("the block holds %v, not %v", held, want)
		}
		for word := range words {
			wantsWord(t, s, p, word, behind)
		}
		wantsBytes(t, s, before, 0, make([]byte, 9))
		wantsBytes(t, s, behind, 0, make([]byte, 9))
		writes(t, s, p, 8, []byte("!"))
		wantsBytes(t, s, p, 0, []byte("12345678!"))
	}
}

// P18.3: all bytes of the greatest object.
func TestManyBytes(t *testing.T) {
	s, _ := begin(t, config(8, 1))
	p := makes(t, s, 1, 1<<20-8)
	row := numbers(1)
	held := row.bytes(1<<20 - 8)
	writes(t, s, p, 0, held)
	wantsBytes(t, s, p, 0, held)
	wantsBytes(t, s, p, 1<<20-9, held[1<<20-9:])
}
