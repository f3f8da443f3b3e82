package arena_test

import (
	"testing"

	"croft/api"
)

// P15.3: two Marks one behind the other without a piece between: two numbers, and each may be released, but not the one behind.
func TestTwoMarks(t *testing.T) {
	for _, back := range []int{0, 1, 2} {
		h := newHeap(t, example())
		a := newArena(t, h, 64)
		p := takes(t, a, 10, 1)
		for mark := range 3 {
			wantsMark(t, a, mark)
		}
		takes(t, a, 20, 1)
		takes(t, a, 60, 1)
		releases(t, a, back)
		wantsChunks(t, a, api.Block{P: p, Size: 64})
		wantsUsed(t, a, 10)
		for mark := back; mark < 4; mark++ {
			refusesRelease(t, a, h, mark)
		}
		for mark := back - 1; mark >= 0; mark-- {
			releases(t, a, mark)
		}
		takesAt(t, a, 54, 1, p+10)
		wantsMark(t, a, 3)
	}
}

// P15.3: of a mark that never was, or stands no more: ESTATE, and nothing changes; what stands may be released still.
func TestNoSuchMark(t *testing.T) {
	h := newHeap(t, example())
	a := newArena(t, h, 64)
	for i := range 6 {
		wantsMark(t, a, i)
		takes(t, a, 40, 1)
		refusesRelease(t, a, h, noMarks()...)
		refusesRelease(t, a, h, i+1, i+2)
	}
	releases(t, a, 3)
	refusesRelease(t, a, h, append(noMarks(), 3, 4, 5, 6)...)
	wantsUsed(t, a, 120)
	releases(t, a, 2)
	wantsUsed(t, a, 80)
	releases(t, a, 0)
	refusesRelease(t, a, h, append(noMarks(), 0, 1, 2, 3, 4, 5, 6)...)
	wantsUsed(t, a, 0)
	wantsLive(t, h)
}

// P15.3: a mark that stood ahead of the first chunk: all goes back, also behind a Reset.
func TestMarkAheadOfFirstChunk(t *testing.T) {
	h := newHeap(t, example())
	a := newArena(t, h, 64)
	for range 3 {
		mark := a.Mark()
		takesMany(t, a, 64, 5)
		releases(t, a, mark)
		wantsChunks(t, a)
		wantsUsed(t, a, 0)
		wantsLive(t, h)
		takesAt(t, a, 1, 1, 65536)
		a.Reset()
	}
	mark := a.Mark()
	releases(t, a, mark)
	wantsChunks(t, a)
	takesAt(t, a, 8192, 8192, 65536)
}

// P15.3: the top that becomes the top again has so many bytes taken as the mark says: no more, though more were taken behind the mark, and no fewer.
func TestTopAgain(t *testing.T) {
	for taken := uint64(1); taken <= 64; taken++ {
		for _, more := range []uint64{0, 1, 30, 64} {
			h := newHeap(t, example())
			a := newArena(t, h, 64)
			top := takes(t, a, taken, 1)
			mark := a.Mark()
			takes(t, a, more, 1)
			takes(t, a, 64, 1)
			takes(t, a, 3, 1)
			releases(t, a, mark)
			wantsUsed(t, a, taken)
			wantsChunks(t, a, api.Block{P: top, Size: 64})
			if taken < 64 {
				takesAt(t, a, 64-taken, 1, top+taken)
				wantsChunks(t, a, api.Block{P: top, Size: 64})
			}
			takes(t, a, 1, 1)
			if len(a.Chunks()) != 2 {
				t.Fatalf("taken %d: the top was not full: %v", taken, a.Chunks())
			}
		}
	}
}

// P15.3: a mark where the top stays: its bytes are taken back, no chunk goes.
func TestReleaseWithinTheTop(t *testing.T) {
	h := newHeap(t, example())
	a := newArena(t, h, 4096)
	p := takes(t, a, 7, 1)
	first := a.Mark()
	takesAt(t, a, 100, 1, p+7)
	second := a.Mark()
	takesAt(t, a, 100, 64, p+128)
	ahead := h.Image().Pages
	releases(t, a, second)
	takesAt(t, a, 5, 1, p+107)
	releases(t, a, first)
	takesAt(t, a, 5, 1, p+7)
	wantsUsed(t, a, 12)
	wantsChunks(t, a, api.Block{P: p, Size: 4096})
	for i, page := range h.Image().Pages {
		if page != ahead[i] {
			t.Fatalf("page %d has changed", i)
		}
	}
}

// P15.3: numbers rise by one with each Mark, behind Release and Reset too; none comes twice.
func TestNumbersOfMarks(t *testing.T) {
	h := newHeap(t, config(4, 2))
	a := newArena(t, h, 64)
	row := numbers(3)
	var standing []int
	for i := range 3000 {
		wantsMark(t, a, i)
		standing = append(standing, i)
		switch at := row.below(len(standing)); row.below(12) {
		case 0:
			a.Reset()
			refusesRelease(t, a, h, standing...)
			standing = nil
		case 1, 2:
			releases(t, a, standing[at])
			refusesRelease(t, a, h, standing[at:]...)
			standing = standing[:at]
		default:
			takes(t, a, uint64(row.below(90)), 1)
		}
	}
}

// P15.3: Reset: of an arena without chunks, twice, and with marks that stood at chunks that are gone.
func TestReset(t *testing.T) {
	h := newHeap(t, example())
	other, _ := h.Malloc(40, false)
	a := newArena(t, h, 200)
	unchanged(t, "Reset of none", a, h, a.Reset)
	wantsMark(t, a, 0)
	takesMany(t, a, 256, 9)
	wantsMark(t, a, 1)
	takes(t, a, 8192, 1)
	a.Reset()
	wantsChunks(t, a)
	wantsUsed(t, a, 0)
	wantsLive(t, h, api.Block{P: other, Size: 64})
	unchanged(t, "Reset once more", a, h, a.Reset)
	refusesRelease(t, a, h, 0, 1, 2)
	wantsMark(t, a, 2)
	p := takes(t, a, 300, 1)
	wantsMark(t, a, 3)
	takes(t, a, 300, 1)
	releases(t, a, 3)
	wantsChunks(t, a, api.Block{P: p, Size: 512})
	wantsUsed(t, a, 300)
	releases(t, a, 2)
	wantsLive(t, h, api.Block{P: other, Size: 64})
}

// P15.3: chunks that go leave the regions where they are: that is Trim's.
func TestRegionsStay(t *testing.T) {
	h := newHeap(t, config(1, 4))
	a := newArena(t, h, 8192)
	mark := a.Mark()
	takesMany(t, a, 8192, 4)
	releases(t, a, mark)
	if got := h.Stats(); got != (api.Stats{H: 4 * 8192, FreePages: 8}) {
		t.Errorf("behind Release: %+v", got)
	}
	takesMany(t, a, 8192, 4)
	a.Reset()
	if got := h.Stats(); got != (api.Stats{H: 4 * 8192, FreePages: 8}) || h.Trim() != 4 {
		t.Errorf("behind Reset: %+v", got)
	}
	refuses(t, a, h, 1, 1, true, api.ENOMEM)
}
