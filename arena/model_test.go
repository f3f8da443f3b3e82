package arena_test

import (
	"cmp"
	"reflect"
	"slices"
	"testing"

	"croft/api"
	"croft/arena"
	"croft/malloc"
)

// piece is what an Alloc has told, and what it holds.
type piece struct {
	p, n uint64
	held []byte
}

// spot is a mark: how many chunks and how many pieces there were.
type spot struct{ number, chunks, pieces int }

// book is an arena by the chapter's words: on a heap it does just the calls that the chapter says, and keeps plain lists of the chunks, the pieces and the marks that stand. What is taken of the top, and what is used, it tells by the pieces alone.
type book struct {
	h      *malloc.Heap
	chunk  uint64
	chunks []api.Block
	pieces []piece
	marks  []spot
	asked  int
}

// room says of P15.2 where in the top a piece would lie, if there is a top and it has room. Each chunk has a piece at its beginning: so the last piece lies in the top, and ends where its taken bytes end.
func (k *book) room(n, align uint64) (uint64, bool) {
	if len(k.chunks) == 0 {
		return 0, false
	}
	top, last := k.chunks[len(k.chunks)-1], k.pieces[len(k.pieces)-1]
	p := (last.p + last.n + align - 1) / align * align
	return p, p+n <= top.P+top.Size
}

// alloc is P15.2.
func (k *book) alloc(n, align uint64, deny bool) answer {
	c := k.h.Config()
	if n == 0 {
		n = 1
	}
	if !isPower(align) {
		return answer{0, api.EINVAL}
	}
	if sizeFor(c, n, align) == 0 {
		return answer{0, api.ETOOBIG}
	}
	p, fits := k.room(n, align)
	if !fits {
		got := told(k.h.AlignedAlloc(align, max(n, k.chunk), deny))
		if got.e != api.OK {
			return got
		}
		p = got.p
		k.chunks = append(k.chunks, api.Block{P: p, Size: sizeFor(c, max(n, k.chunk), align)})
	}
	k.pieces = append(k.pieces, piece{p: p, n: n})
	return answer{p, api.OK}
}

// mark is P15.3, and so are release and reset.
func (k *book) mark() int {
	k.marks = append(k.marks, spot{k.asked, len(k.chunks), len(k.pieces)})
	k.asked++
	return k.asked - 1
}

func (k *book) release(mark int) api.Errno {
	for i, m := range k.marks {
		if m.number == mark {
			k.back(m)
			k.marks = k.marks[:i]
			return api.OK
		}
	}
	return api.ESTATE
}

func (k *book) reset() {
	k.back(spot{})
	k.marks = nil
}

// back gives chunks back, the last one first.
func (k *book) back(m spot) {
	for i := len(k.chunks) - 1; i >= m.chunks; i-- {
		k.h.Free(k.chunks[i].P)
	}
	k.chunks, k.pieces = k.chunks[:m.chunks], k.pieces[:m.pieces]
}

func (k *book) used() uint64 {
	sum := uint64(0)
	for _, x := range k.pieces {
		sum += x.n
	}
	return sum
}

// both are arenas over one heap, each beside its book, and the books' heap; and others, who ask both heaps for blocks of their own.
type both struct {
	t        *testing.T
	h, twin  *malloc.Heap
	arenas   []*arena.Arena
	books    []*book
	strange  []api.Block
	accepted int
}

func newBoth(t *testing.T, c api.Config, chunks ...uint64) *both {
	t.Helper()
	x := &both{t: t, h: newHeap(t, c), twin: newHeap(t, c)}
	for _, chunk := range chunks {
		x.arenas = append(x.arenas, newArena(t, x.h, chunk))
		x.books = append(x.books, &book{h: x.twin, chunk: chunk})
	}
	return x
}

func (x *both) alloc(i int, n, align uint64, deny bool) {
	x.t.Helper()
	got, want := told(x.arenas[i].Alloc(n, align, deny)), x.books[i].alloc(n, align, deny)
	if got != want {
		x.t.Fatalf("Alloc(%d, %d, %v): %v, not %v", n, align, deny, got, want)
	}
	if got.e == api.OK {
		x.accepted++
	}
}

func (x *both) release(i, mark int) {
	x.t.Helper()
	wantsError(x.t, "Release", x.arenas[i].Release(mark), x.books[i].release(mark))
}

func (x *both) reset(i int) {
	x.arenas[i].Reset()
	x.books[i].reset()
}

// others asks for a block past the arenas, or frees one of those.
func (x *both) others(row *numbers) {
	x.t.Helper()
	if i := row.below(len(x.strange) + 1); i < len(x.strange) && row.below(3) > 0 {
		wantsError(x.t, "the heap's Free", x.h.Free(x.strange[i].P), x.twin.Free(x.strange[i].P))
		x.strange = slices.Delete(x.strange, i, i+1)
		return
	}
	size, deny := row.size(x.h.Config()), row.below(2) == 0
	got := told(x.h.Malloc(size, deny))
	wants(x.t, "the heap's Malloc", got, told(x.twin.Malloc(size, deny)))
	if got.e == api.OK {
		x.strange = append(x.strange, api.Block{P: got.p, Size: sizeFor(x.h.Config(), size, 1)})
	}
}

// draw tells a mark of an arena, most often one that stands.
func (x *both) draw(i int, row *numbers) int {
	k := x.books[i]
	if len(k.marks) > 0 && row.below(4) > 0 {
		at := len(k.marks) - 1
		for at > 0 && row.below(3) > 0 {
			at--
		}
		return k.marks[at].number
	}
	return oneOf(row, append(noMarks(), row.below(k.asked+2), k.asked, k.asked-1)...)
}

// call does one that is drawn.
func (x *both) call(row *numbers) {
	x.t.Helper()
	c, i := x.h.Config(), row.below(len(x.arenas))
	n, align, deny := row.size(c), row.align(c), row.below(3) == 0
	if row.below(20) == 0 {
		n = oneOf(row, append(edges(), regionBytes(c), regionBytes(c)+1)...)
	}
	if row.below(20) == 0 {
		align = oneOf(row, append(edges(), regionBytes(c), 2*regionBytes(c))...)
	}
	switch kind := row.below(60); {
	case kind < 36:
		x.alloc(i, n, align, deny)
	case kind < 44:
		wantsMark(x.t, x.arenas[i], x.books[i].mark())
	case kind < 48:
		x.release(i, x.draw(i, row))
	case kind == 48:
		x.reset(i)
	case kind == 49:
		if got, want := x.h.Trim(), x.twin.Trim(); got != want {
			x.t.Fatalf("the heap's Trim: %d, not %d", got, want)
		}
	default:
		x.others(row)
	}
}

// check holds what each arena has, and the heap's live blocks, against the books.
func (x *both) check() {
	x.t.Helper()
	all := slices.Clone(x.strange)
	for i, k := range x.books {
		wantsChunks(x.t, x.arenas[i], k.chunks...)
		wantsUsed(x.t, x.arenas[i], k.used())
		all = append(all, k.chunks...)
	}
	slices.SortFunc(all, func(one, other api.Block) int { return cmp.Compare(one.P, other.P) })
	wantsLive(x.t, x.h, all...)
	if got, want := x.h.Stats(), x.twin.Stats(); got != want {
		x.t.Fatalf("the heap's Stats: %+v, not %+v", got, want)
	}
}

// checkHeap asks that just the same was done on both heaps: every byte, list and page is the same.
func (x *both) checkHeap() {
	x.t.Helper()
	if !reflect.DeepEqual(x.h.Image(), x.twin.Image()) {
		x.t.Fatal("the heap is another than the books'")
	}
}

// drawnChunk tells what an arena's chunks are for.
func drawnChunk(row *numbers, c api.Config) uint64 {
	return oneOf(row, 1, 16, 100, 128, 500, 2048, 4096, regionBytes(c)/2+1, regionBytes(c))
}

// P15.1 to P15.6: behind long rows of calls, denied and not, by one arena and by several, others using the heap beside, each answers what the chapter says, and the books are right behind each.
func TestCalls(t *testing.T) {
	accepted := 0
	for seed := range 200 {
		row := numbers(seed)
		c := config(seed%9, 1+seed%5)
		var chunks []uint64
		for range 1 + seed%4 {
			chunks = append(chunks, drawnChunk(&row, c))
		}
		x := newBoth(t, c, chunks...)
		for range 300 {
			x.call(&row)
			x.check()
		}
		x.checkHeap()
		for i := range x.arenas {
			x.reset(i)
			x.check()
		}
		x.checkHeap()
		accepted += x.accepted
	}
	if accepted < 10000 {
		t.Errorf("only %d pieces came", accepted)
	}
}

// P15.2: small pieces alone, so that chunks fill to their last byte; each n up to a chunk, each align.
func TestCallsOfSmallPieces(t *testing.T) {
	for seed := range 40 {
		row := numbers(seed)
		x := newBoth(t, config(2, 3), oneOf[uint64](&row, 1, 16, 32, 33, 64))
		for range 1500 {
			x.alloc(0, uint64(row.below(33)), 1<<row.below(6), row.below(2) == 0)
			if row.below(10) == 0 {
				wantsMark(t, x.arenas[0], x.books[0].mark())
			}
			if row.below(20) == 0 {
				x.release(0, x.draw(0, &row))
			}
		}
		x.check()
		x.checkHeap()
	}
}

// P15.2: every n and every align at once, on an arena with a top and without one.
func TestEdges(t *testing.T) {
	for order := range 9 {
		c := config(order, 3)
		r := regionBytes(c)
		for _, chunk := range []uint64{1, 100, 4096, r - 1, r} {
			x := newBoth(t, c, chunk)
			for _, n := range append(edges(), r-1, r, r+1, most/2) {
				for _, align := range append(edges(), r/2, r, 2*r) {
					for _, deny := range []bool{true, false} {
						x.alloc(0, n, align, deny)
					}
				}
				x.check()
				if n%2 == 0 {
					x.reset(0)
				}
			}
			x.checkHeap()
		}
	}
}
