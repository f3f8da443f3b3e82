package count_test

import (
	"bytes"
	"reflect"
	"slices"
	"strconv"
	"sync"
	"testing"

	"croft/api"
	"croft/count"
	"croft/malloc"
)

// span is where a list lies, spare room too.
type span struct{ from, to uintptr }

// spanOf tells none of a list without room.
func spanOf[T any](list []T) []span {
	if cap(list) == 0 {
		return nil
	}
	is := reflect.ValueOf(list)
	return []span{{is.Pointer(), is.Pointer() + uintptr(cap(list))*is.Type().Elem().Size()}}
}

// wantsApart asks that no two of these share a byte.
func wantsApart(t *testing.T, what string, spans ...[]span) {
	t.Helper()
	all := slices.Concat(spans...)
	for i, one := range all {
		for _, other := range all[:i] {
			if one.from < other.to && other.from < one.to {
				t.Fatalf("%s: two lists share memory", what)
			}
		}
	}
}

// R4: what Read and Objects tell is new memory each time, spare room too: what is done to it is not seen.
func TestListsApart(t *testing.T) {
	s, h := begin(t, config(1, 2))
	list := makesMany(t, s, 20, 1, 50)
	chains(t, s, list...)
	writes(t, s, list[12], 0, bytes.Repeat([]byte{5}, 50))
	for range 3 {
		read, _ := s.Read(list[12], 0, 50)
		again, _ := s.Read(list[12], 0, 50)
		objects, twice := s.Objects(), s.Objects()
		wantsApart(t, "answers", spanOf(read), spanOf(again), spanOf(objects), spanOf(twice), spanOf(s.Collect().Due))
		unchanged(t, "what is done to an answer", s, h, func() {
			clear(read[:cap(read)])
			clear(objects[:cap(objects)])
		})
		wantsBytes(t, s, list[12], 0, bytes.Repeat([]byte{5}, 50))
		wantsSwept(t, s, 0, 0)
	}
	wantsObjects(t, s, list...)
}

// R4: an answer stays what it was, whatever the store does behind it.
func TestAnswersStay(t *testing.T) {
	s, _ := begin(t, example())
	list := makesMany(t, s, 4, 1, 8)
	writes(t, s, list[0], 0, []byte("12345678"))
	read, _ := s.Read(list[0], 0, 8)
	objects := s.Objects()
	writes(t, s, list[0], 0, []byte("87654321"))
	drops(t, s, list...)
	makesMany(t, s, 8, 2, 0)
	s.Objects()
	if string(read) != "12345678" || !slices.Equal(objects, list) {
		t.Errorf("answers have changed: %q, %v", read, objects)
	}
}

// R4: what Write is handed is not changed, spare room included, and not kept: what becomes of it is not seen.
func TestWriteKeepsNothing(t *testing.T) {
	s, h := begin(t, example())
	p := makes(t, s, 1, 40)
	whole := []byte("what is written, and spare room")
	ahead := slices.Clone(whole)
	for _, at := range []int{0, 20, 25, 26, 40, -1, top} {
		s.Write(p, at, whole[:15])
		s.Write(p+1, at, whole[:15])
		if !bytes.Equal(whole, ahead) {
			t.Fatalf("Write at %d has changed what it was handed", at)
		}
	}
	unchanged(t, "what is done to an argument", s, h, func() { clear(whole) })
	wantsBytes(t, s, p, 0, ahead[:15])
	wantsBytes(t, s, p, 25, ahead[:15])
}

// asked is a call that was drawn, to be done on several stores. The object and the one to which a word is to refer are told by their numbers among the objects, or else, past these, by an address that may be any.
type asked struct {
	kind, object, to, one, other int
	deny                         bool
}

func draw(row *numbers, c api.Config) asked {
	words, n := row.form(c)
	if row.below(4) > 0 {
		words, n = row.below(4), row.below(20)
	}
	return asked{row.below(100), row.below(1 << 20), row.below(1 << 20), words, n, row.below(3) == 0}
}

// address tells the object that a number means.
func address(s *count.Store, number int) uint64 {
	if list := s.Objects(); len(list) > 0 && number%16 > 0 {
		return list[number/16%len(list)]
	}
	return uint64(number)
}

// does makes the call, and tells all that it answers.
func does(s *count.Store, x asked) []any {
	p, to := address(s, x.object), address(s, x.to)
	switch {
	case x.kind < 30:
		p, e := s.Make(x.one, x.other, x.deny)
		return []any{p, e}
	case x.kind < 60:
		return []any{s.Put(p, x.other%4, to)}
	case x.kind < 63:
		v, e := s.Get(p, x.other%4)
		return []any{v, e}
	case x.kind < 66:
		b, e := s.Read(p, x.one%5, x.other%20)
		return []any{string(b), e}
	case x.kind < 70:
		return []any{s.Write(p, x.one%5, []byte(strconv.Itoa(x.other)))}
	case x.kind < 74:
		return []any{s.Keep(p)}
	case x.kind < 90:
		return []any{s.Drop(p)}
	case x.kind < 94:
		n, e := s.Count(p)
		return []any{n, e}
	case x.kind < 97:
		return []any{s.Objects()}
	}
	return []any{s.Collect()}
}

// R5: the same is asked of several stores over heaps of their own, with other things asked of one more between: they answer the same, and the heaps are the same byte by byte, whatever order the maps are gone through in.
func TestSameAnswers(t *testing.T) {
	for seed := range 60 {
		row, strange := numbers(seed), numbers(seed+500)
		c := config(seed%5, 1+seed%3)
		var stores []*count.Store
		var heaps []*malloc.Heap
		for range 4 {
			s, h := begin(t, c)
			stores, heaps = append(stores, s), append(heaps, h)
		}
		for range 400 {
			x := draw(&row, c)
			got := does(stores[0], x)
			does(stores[3], draw(&strange, c))
			for _, like := range stores[1:3] {
				if want := does(like, x); !reflect.DeepEqual(got, want) {
					t.Fatalf("%+v: %v, and %v", x, got, want)
				}
			}
		}
		for _, like := range heaps[1:3] {
			if !reflect.DeepEqual(heaps[0].Image(), like.Image()) {
				t.Fatal("two heaps differ behind the same calls")
			}
		}
	}
}

// R3: calls that are refused are asked of one store alone: it answers from then on what its twin does, which was not asked: how often each object is kept by hand is the same, too.
func TestRefusedIsNotSeen(t *testing.T) {
	for seed := range 60 {
		row := numbers(seed)
		c := config(seed%3, 1+seed%3)
		s, h := begin(t, c)
		twin, other := begin(t, c)
		for range 300 {
			x := draw(&row, c)
			if got, want := does(s, x), does(twin, x); !reflect.DeepEqual(got, want) {
				t.Fatalf("%+v: %v, and %v", x, got, want)
			}
			p := uint64(row.below(1 << 16)) // below Base
			s.Keep(p)
			s.Drop(p)
			s.Make(-1, 5, false)
			s.Make(1<<40, 5, false)
			for _, object := range s.Objects() {
				s.Put(object, row.below(4), p+1)
				s.Put(object+1, row.below(4), object)
				s.Put(object, 1<<40, object)
				s.Write(object, -1, []byte{1})
				s.Keep(object + 1)
				s.Drop(object + 1)
			}
		}
		if !reflect.DeepEqual(stateOf(s, h), stateOf(twin, other)) {
			t.Fatal("refused calls are seen")
		}
	}
}

// R1: every call ends, and none panics, at all arguments; of a new store, behind some calls, and of a full heap.
func TestNoPanic(t *testing.T) {
	for _, c := range []api.Config{config(0, 1), config(1, 2), {Base: 1<<63 - 1<<22, Limit: 4, Order: 8}} {
		s, _ := begin(t, c)
		for range 3 {
			list := []uint64{0, 1, 7, c.Base, c.Base + 1, c.Base + 16, c.Base + 4096, 1 << 63, most - 7, most}
			for _, p := range list {
				for _, n := range edges() {
					s.Get(p, n)
					s.Put(p, n, p)
					s.Put(p, n, 0)
					s.Put(p, n, most)
					s.Write(p, n, nil)
					s.Write(p, n, []byte{1})
					for _, other := range edges() {
						s.Read(p, n, other)
					}
				}
				s.Keep(p)
				s.Count(p)
				s.Drop(p)
			}
			s.Collect()
			for _, words := range edges() {
				for _, n := range edges() {
					s.Make(words, n, true)
					s.Make(words, n, false)
				}
			}
			s.Objects()
		}
		drops(t, s, s.Objects()...)
		s.Collect()
		wantsObjects(t, s)
	}
}

// past does something to the heap that only the store may do: it frees an object, or changes its size, or writes into its words.
func past(h *malloc.Heap, p uint64, x asked) {
	switch x.to % 6 {
	case 0:
		h.Free(p)
	case 1:
		h.Realloc(p, uint64(x.other), x.deny)
	case 2:
		h.Write(p, bytes.Repeat([]byte{byte(x.one)}, x.other%40))
	case 3:
		h.StoreWord(p, uint64(x.one))
	case 4:
		h.StoreWord(p, h.Config().Base+uint64(x.one%64)*16)
	default:
		h.Trim()
	}
}

// R1, R5, R6: who frees objects past the store, or writes into their words, is promised that each call ends and none panics, and that the same calls answer the same.
func TestPastTheStore(t *testing.T) {
	for seed := range 150 {
		row := numbers(seed)
		c := config(seed%4, 2)
		s, h := begin(t, c)
		other, twin := begin(t, c)
		for range 300 {
			if list := s.Objects(); len(list) > 0 && row.below(3) == 0 {
				x, p := draw(&row, c), oneOf(&row, list...)
				past(h, p, x)
				past(twin, p, x)
			}
			x := draw(&row, c)
			if got, want := does(s, x), does(other, x); !reflect.DeepEqual(got, want) {
				t.Fatalf("%+v: %v, and %v", x, got, want)
			}
			if !reflect.DeepEqual(h.Live(), twin.Live()) {
				t.Fatal("two heaps differ behind the same calls")
			}
		}
	}
}

// R1, R6: every object was freed, its region let go: the store goes on, to the last call.
func TestObjectsFreed(t *testing.T) {
	s, h := begin(t, config(0, 2))
	list := makesMany(t, s, 100, 2, 16)
	chains(t, s, list...)
	for _, p := range list {
		wantsError(t, "the heap's Free", h.Free(p), api.OK)
	}
	h.Trim()
	for _, p := range list {
		s.Get(p, 0)
		s.Put(p, 0, p)
		s.Read(p, 0, 16)
		s.Write(p, 0, []byte{1})
		s.Count(p)
		s.Keep(p)
		s.Drop(p)
	}
	for range 3 {
		s.Collect()
		s.Objects()
		s.Make(2, 16, false)
	}
	for _, p := range s.Objects() {
		for s.Drop(p) == api.OK {
			s.Count(p)
		}
	}
	s.Collect()
	wantsObjects(t, s)
}

// R1, R6: words that others have written refer to what is kept, to what goes, to themselves: counts fall that should not, and each call ends all the same.
func TestWordsWritten(t *testing.T) {
	for seed := range 200 {
		row := numbers(seed)
		s, h := begin(t, example())
		list := makesMany(t, s, 12, 3, 0)
		for range 30 {
			puts(t, s, oneOf(&row, list...), row.below(3), oneOf(&row, list...))
		}
		for _, p := range list {
			for word := range 3 {
				if row.below(2) == 0 {
					h.StoreWord(p+uint64(8*word), oneOf(&row, append(list, 0, 7, most)...))
				}
			}
		}
		for _, p := range list {
			s.Drop(p)
			s.Put(oneOf(&row, list...), row.below(3), oneOf(&row, append(list, 0)...))
			s.Count(p)
		}
		s.Objects()
		s.Collect()
		for _, p := range s.Objects() {
			s.Drop(p)
		}
		s.Collect()
		wantsObjects(t, s)
	}
}

// R5: stores of several goroutines over one heap: each is asked by one alone, and what it keeps is there.
func TestSideBySide(t *testing.T) {
	h := newHeap(t, config(6, 16))
	wrong := make([]int, 8)
	var all sync.WaitGroup
	for i := range wrong {
		s := count.New(h)
		all.Go(func() {
			row := numbers(i)
			for range 40 {
				first, e := s.Make(1, 8, false)
				if e != api.OK || s.Write(first, 0, []byte{byte(i)}) != api.OK {
					wrong[i]++
				}
				last := first
				for range 20 {
					p, e := s.Make(1, 8, false)
					if e != api.OK || s.Put(last, 0, p) != api.OK || s.Write(p, 0, []byte{byte(i)}) != api.OK || s.Drop(p) != api.OK {
						wrong[i]++
					}
					if row.below(3) > 0 {
						last = p
					}
				}
				if row.below(2) == 0 && s.Put(last, 0, first) != api.OK {
					wrong[i]++
				}
				for _, p := range s.Objects() {
					if b, e := s.Read(p, 0, 1); e != api.OK || b[0] != byte(i) {
						wrong[i]++
					}
				}
				if s.Drop(first) != api.OK {
					wrong[i]++
				}
				s.Collect()
			}
		})
	}
	all.Wait()
	if slices.Max(wrong) != 0 {
		t.Errorf("what went wrong: %v", wrong)
	}
	wantsLive(t, h)
}
