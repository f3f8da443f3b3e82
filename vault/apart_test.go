package vault_test

import (
	"bytes"
	"reflect"
	"slices"
	"sync"
	"testing"

	"croft/api"
	"croft/vault"
)

// span is where a list lies, spare room too.
type span struct{ from, to uintptr }

// spanOf tells none of a list without room.
func spanOf[T any](list []T) []span {
	if cap(list) == 0 {
		return nil
	}
	is := reflect.ValueOf(list)
	return []span{{is.Pointer(), is.Pointer() + uintptr(cap(list))*is.Type().Elem().Size()}}
}

// spansOf tells those of all lists of an image.
func spansOf(im api.Image) []span {
	all := slices.Concat(spanOf(im.Mem), spanOf(im.Pages), spanOf(im.Pairs), spanOf(im.Heads), spanOf(im.Partial))
	for _, words := range im.Pairs {
		all = append(all, spanOf(words)...)
	}
	return all
}

// wantsApart asks that no two of these share a byte.
func wantsApart(t *testing.T, what string, spans ...[]span) {
	t.Helper()
	all := slices.Concat(spans...)
	for i, one := range all {
		for _, other := range all[:i] {
			if one.from < other.to && other.from < one.to {
				t.Fatalf("%s: two lists share memory", what)
			}
		}
	}
}

// P16.10, R4: what Read, Handles and Image tell is new memory each time, spare room too: what is done to it is not seen.
func TestListsApart(t *testing.T) {
	v := newVault(t, example())
	takesAll(t, v, 16, 4096, 100, 2048)
	writes(t, v, 2, 0, bytes.Repeat([]byte{5}, 4096))
	for range 2 {
		read, again := mustRead(t, v, 2), mustRead(t, v, 2)
		handles, twice := v.Handles(), v.Handles()
		im, other := v.Image(), v.Image()
		wantsApart(t, "answers", spanOf(read), spanOf(again), spanOf(handles), spanOf(twice), spansOf(im), spansOf(other))
		unchanged(t, "what is done to an answer", v, func() {
			clear(read[:cap(read)])
			clear(handles[:cap(handles)])
			for _, words := range im.Pairs {
				clear(words[:cap(words)])
			}
			clear(im.Mem[:cap(im.Mem)])
			clear(im.Pages[:cap(im.Pages)])
			clear(im.Pairs[:cap(im.Pairs)])
			clear(im.Heads[:cap(im.Heads)])
			clear(im.Partial[:cap(im.Partial)])
		})
		v.Compact() // now the heap is one that was laid
	}
}

func mustRead(t *testing.T, v *vault.Vault, handle int) []byte {
	t.Helper()
	size, e := v.Size(handle)
	wantsError(t, "Size", e, api.OK)
	b, e := v.Read(handle, 0, size)
	wantsError(t, "Read", e, api.OK)
	return b
}

// P16.10, R4: an answer stays what it was, whatever the vault does behind it.
func TestAnswersStay(t *testing.T) {
	v := full(t, example(), 2)
	writes(t, v, 2, 0, bytes.Repeat([]byte{5}, 4096))
	read, handles, im := mustRead(t, v, 2), v.Handles(), v.Image()
	mem, pages, heads := slices.Clone(im.Mem), slices.Clone(im.Pages), slices.Clone(im.Heads)
	writes(t, v, 2, 0, make([]byte, 4096))
	frees(t, v, 1, 4)
	takes(t, v, 8192, true, 5)
	frees(t, v, 2)
	v.Compact()
	if !bytes.Equal(read, bytes.Repeat([]byte{5}, 4096)) || !slices.Equal(handles, []int{1, 2, 3, 4}) {
		t.Errorf("what was read, or the handles %v, have changed", handles)
	}
	if !bytes.Equal(im.Mem, mem) || !slices.Equal(im.Pages, pages) || !slices.Equal(im.Heads, heads) {
		t.Error("an image has changed")
	}
}

// P16.10, R4: what Write is handed is not changed, spare room included, and not kept: what becomes of it is not seen.
func TestWriteKeepsNothing(t *testing.T) {
	v := newVault(t, example())
	takesAll(t, v, 64)
	whole := []byte("what is written, and spare room")
	ahead := slices.Clone(whole)
	for _, at := range []uint64{0, 40, 60, most} {
		v.Write(1, at, whole[:15])
		v.Write(2, at, whole[:15])
		if !bytes.Equal(whole, ahead) {
			t.Fatalf("Write at %d has changed what it was handed", at)
		}
	}
	unchanged(t, "what is done to an argument", v, func() { clear(whole) })
	wantsBytes(t, v, 1, 40, ahead[:15])
	v.Compact()
	wantsBytes(t, v, 1, 0, ahead[:15])
}

// asked is a call that was drawn, to be done on several vaults.
type asked struct {
	kind, handle int
	size, at     uint64
	deny         bool
}

func draw(row *numbers, c api.Config) asked {
	return asked{row.below(40), row.below(60) - 1, row.size(c), uint64(row.below(5000)), row.below(3) == 0}
}

// does makes the call, and tells all that it answers.
func does(v *vault.Vault, x asked) []any {
	switch {
	case x.kind < 18:
		handle, e := v.Malloc(x.size, x.deny)
		return []any{handle, e}
	case x.kind < 28:
		return []any{v.Free(x.handle)}
	case x.kind < 30:
		p, e := v.Pin(x.handle)
		return []any{p, e}
	case x.kind < 32:
		return []any{v.Unpin(x.handle)}
	case x.kind < 34:
		size, e := v.Size(x.handle)
		return []any{size, e}
	case x.kind < 36:
		b, e := v.Read(x.handle, x.at, x.size)
		return []any{append([]byte{}, b...), e}
	case x.kind < 39:
		return []any{v.Write(x.handle, x.at, []byte{byte(x.at), byte(x.size)})}
	}
	return []any{v.Compact()}
}

// R5: the same is asked of several vaults, with other things asked of one more between: they answer the same, and lie the same, whatever order their maps are gone through in.
func TestSameAnswers(t *testing.T) {
	for seed := range 60 {
		row, strange := numbers(seed), numbers(seed+500)
		c := config(seed%5, 1+seed%3)
		one, twin, third, other := newVault(t, c), newVault(t, c), newVault(t, c), newVault(t, c)
		for range 250 {
			x := draw(&row, c)
			got := does(one, x)
			does(other, draw(&strange, c))
			for _, like := range []*vault.Vault{twin, third} {
				if want := does(like, x); !reflect.DeepEqual(got, want) {
					t.Fatalf("%+v: %v, and %v", x, got, want)
				}
			}
			if x.kind == 39 && !same(one.Image(), twin.Image()) {
				t.Fatal("two vaults differ behind the same calls")
			}
		}
		if !same(one.Image(), twin.Image()) || !same(one.Image(), third.Image()) || !slices.Equal(one.Handles(), twin.Handles()) {
			t.Fatal("two vaults differ behind the same calls")
		}
	}
}

// R5: two vaults side by side have nothing in common: neither handles nor blocks, regions or pins.
func TestTwoVaults(t *testing.T) {
	one, other := newVault(t, example()), newVault(t, example())
	takesAll(t, one, 4096, 4096, 4096)
	refusesHandle(t, other, 1)
	takes(t, other, 16, false, 1)
	wantsAt(t, other, example(), map[int]uint64{1: 0})
	pins(t, one, 1, 65536)
	writes(t, other, 1, 0, []byte{9})
	writes(t, one, 1, 0, []byte{1})
	wantsError(t, "Unpin", other.Unpin(1), api.ESTATE)
	wantsBytes(t, other, 1, 0, []byte{9})
	unchanged(t, "what is done to the other", one, func() {
		frees(t, other, 1)
		wantsCompact(t, other, 1)
	})
	wantsHandles(t, one, 1, 2, 3)
	takes(t, other, 16, false, 2)
	takes(t, one, 4096, false, 4)
}

// R1: every call ends, and none panics, at all arguments; of a new vault and behind some calls.
func TestNoPanic(t *testing.T) {
	for _, c := range []api.Config{config(0, 1), example(), config(8, 4), {Base: 1<<63 - 1<<22, Limit: 4, Order: 8}} {
		v := newVault(t, c)
		for round := range 3 {
			for _, handle := range append(noHandles(), 1, 2, 3) {
				for _, at := range edges() {
					v.Read(handle, at, -at)
					v.Write(handle, at, nil)
					v.Write(handle, at, []byte{1})
					for _, n := range edges() {
						v.Read(handle, at, n)
					}
				}
				v.Size(handle)
				v.Unpin(handle)
				if round == 1 {
					v.Pin(handle)
				}
				v.Free(handle)
			}
			v.Compact()
			for _, size := range edges() {
				v.Malloc(size, true)
				v.Malloc(size, false)
			}
			v.Handles()
			v.Stats()
			wantsSound(t, v)
		}
	}
}

// R5: vaults of several goroutines, each asked by one alone: what they answer is what they would alone.
func TestSideBySide(t *testing.T) {
	c := config(3, 2)
	answers := make([][][]any, 8)
	var all sync.WaitGroup
	for i := range answers {
		v := newVault(t, c)
		all.Go(func() {
			row := numbers(i % 2)
			for range 300 {
				answers[i] = append(answers[i], does(v, draw(&row, c)))
			}
		})
	}
	all.Wait()
	for i := range answers {
		if !reflect.DeepEqual(answers[i], answers[i%2]) {
			t.Errorf("the vault %d answered otherwise", i)
		}
	}
}
