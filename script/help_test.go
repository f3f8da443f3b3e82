package script_test

import (
	"bytes"
	"reflect"
	"slices"
	"strings"
	"testing"

	"croft/api"
	"croft/malloc"
	"croft/script"
)

// numbers gives the same long row of numbers each time.
type numbers uint64

func (n *numbers) below(end int) int {
	*n = *n*6364136223846793005 + 1442695040888963407
	return int(uint64(*n) >> 33 % uint64(end))
}

// word tells one of 64 bits.
func (n *numbers) word() uint64 {
	return uint64(n.below(1<<31))<<33 ^ uint64(n.below(1<<31))<<11 ^ uint64(n.below(1<<31))
}

// bytes tells so many.
func (n *numbers) bytes(count int) []byte {
	list := make([]byte, count)
	for i := range list {
		list[i] = byte(n.below(256))
	}
	return list
}

// oneOf tells one of a list.
func oneOf[T any](row *numbers, list ...T) T { return list[row.below(len(list))] }

// ops tells all that there are.
func ops() []int {
	var list []int
	for op := api.OpMalloc; op <= api.OpStats; op++ {
		list = append(list, op)
	}
	return list
}

// noOps tells some that are none.
func noOps() []int { return []int{0, -1, -14, api.OpStats + 1, 1 << 32, 1<<63 - 1, -1 << 63} }

// edges tells numbers at which something may change.
func edges() []uint64 {
	return []uint64{0, 1, 15, 16, 17, 255, 256, 4095, 4096, 4097, 8192, 8193, 65535, 65536, 65537, 1 << 32, 1<<63 - 1, 1 << 63, 1<<63 + 1, 1<<64 - 2, 1<<64 - 1}
}

// example is the Config of the chapter's table: R is 8192.
func example() api.Config { return api.Config{Base: 65536, Limit: 2, Order: 1} }

// config is one of an order, with as many regions as may be, up to most.
func config(order, most int) api.Config {
	return api.Config{Base: 1 << 32, Limit: min(most, 64, 1024>>order), Order: order}
}

func newHeap(t *testing.T, c api.Config) *malloc.Heap {
	t.Helper()
	h, e := malloc.New(c)
	if h == nil || e != api.OK {
		t.Fatalf("New(%+v): %v, %v", c, h, e)
	}
	return h
}

// twins tells two heaps that are alike, behind many calls.
func twins(t *testing.T, c api.Config, seed, count int) (one, other *malloc.Heap) {
	t.Helper()
	row := numbers(seed)
	one = newHeap(t, c)
	var answers []api.Answer
	for range count {
		answers = append(answers, asked(one, drawnCall(one, answers, &row), answers))
	}
	other, e := malloc.Open(one.Image())
	if e != api.OK {
		t.Fatalf("Open: %v", e)
	}
	return one, other
}

// sameHeap says whether two heaps are one in all that can be told of them.
func sameHeap(one, other *malloc.Heap) bool { return sameImage(one.Image(), other.Image()) }

func sameImage(one, other api.Image) bool {
	return one.Config == other.Config && one.Regions == other.Regions &&
		bytes.Equal(one.Mem, other.Mem) && slices.Equal(one.Pages, other.Pages) &&
		slices.EqualFunc(one.Pairs, other.Pairs, slices.Equal[[]uint64]) &&
		slices.Equal(one.Heads, other.Heads) && slices.Equal(one.Partial, other.Partial)
}

// sameAnswer says whether two are one; so are nil and an empty list.
func sameAnswer(one, other api.Answer) bool {
	return one.E == other.E && one.V == other.V && bytes.Equal(one.Data, other.Data) && one.Stats == other.Stats
}

func sameAnswers(one, other []api.Answer) bool { return slices.EqualFunc(one, other, sameAnswer) }

func sameCall(one, other api.Call) bool {
	return one.Op == other.Op && one.Ref == other.Ref && one.P == other.P && one.A == other.A && one.B == other.B &&
		one.Deny == other.Deny && bytes.Equal(one.Data, other.Data)
}

func sameCalls(one, other []api.Call) bool { return slices.EqualFunc(one, other, sameCall) }

// copied tells calls in memory of their own, spare room and all.
func copied(calls []api.Call) []api.Call {
	list := slices.Clone(calls[:cap(calls)])
	for i := range list {
		list[i].Data = slices.Clone(list[i].Data[:cap(list[i].Data)])
	}
	return list
}

// span is where a list lies, spare room too.
type span struct{ from, to uintptr }

// spanOf tells none of a list without room.
func spanOf[T any](list []T) []span {
	if cap(list) == 0 {
		return nil
	}
	is := reflect.ValueOf(list)
	return []span{{is.Pointer(), is.Pointer() + uintptr(cap(list))*is.Type().Elem().Size()}}
}

// spansOfCalls tells those of all lists of calls.
func spansOfCalls(calls []api.Call) []span {
	all := spanOf(calls)
	for _, c := range calls {
		all = append(all, spanOf(c.Data)...)
	}
	return all
}

func spansOfAnswers(answers []api.Answer) []span {
	all := spanOf(answers)
	for _, a := range answers {
		all = append(all, spanOf(a.Data)...)
	}
	return all
}

// wantsApart asks that no two of these share a byte.
func wantsApart(t *testing.T, what string, spans ...[]span) {
	t.Helper()
	all := slices.Concat(spans...)
	for i, one := range all {
		for _, other := range all[:i] {
			if one.from < other.to && other.from < one.to {
				t.Fatalf("%s: two lists share memory", what)
			}
		}
	}
}

// lines makes a text of lines that are parted by strokes.
func lines(text string) string { return strings.ReplaceAll(text, "|", "\n") }

// parsed tells the calls of a text that has them.
func parsed(t *testing.T, text string) []api.Call {
	t.Helper()
	calls, line, e := script.Parse(text)
	if line != 0 || e != api.OK {
		t.Fatalf("Parse(%.60q): line %d, %v", text, line, e)
	}
	return calls
}

// printed tells the text of calls that have one.
func printed(t *testing.T, calls []api.Call) string {
	t.Helper()
	text, e := script.Print(calls)
	if e != api.OK {
		t.Fatalf("Print of %d calls: %v", len(calls), e)
	}
	return text
}

// played tells what calls answer that are not too many.
func played(t *testing.T, h *malloc.Heap, calls []api.Call) []api.Answer {
	t.Helper()
	answers, e := script.Play(h, calls)
	if e != api.OK || len(answers) != len(calls) {
		t.Fatalf("Play of %d calls: %d answers, %v", len(calls), len(answers), e)
	}
	return answers
}

func wantsAnswer(t *testing.T, what any, got, want api.Answer) {
	t.Helper()
	if !sameAnswer(got, want) {
		t.Fatalf("%+v: %+v, not %+v", what, got, want)
	}
}

// wantsRefused asks a heap for a call that is refused: the answer is the error alone, and nothing is changed.
func wantsRefused(t *testing.T, h *malloc.Heap, c api.Call, answers []api.Answer, want api.Errno) {
	t.Helper()
	ahead := h.Image()
	wantsAnswer(t, c, script.One(h, c, answers), api.Answer{E: want})
	if !sameImage(h.Image(), ahead) {
		t.Fatalf("%+v is refused, and has changed something", c)
	}
}

// wantsParse asks for what a text's Parse tells.
func wantsParse(t *testing.T, text string, calls []api.Call, line int, e api.Errno) {
	t.Helper()
	got, at, f := script.Parse(text)
	if !sameCalls(got, calls) || at != line || f != e {
		t.Fatalf("Parse(%.60q): %.200v, line %d, %v; not %.200v, line %d, %v", text, got, at, f, calls, line, e)
	}
}

// refusesParse asks for an error.
func refusesParse(t *testing.T, text string, line int, e api.Errno) {
	t.Helper()
	wantsParse(t, text, nil, line, e)
}

// refusesPrint asks for an error.
func refusesPrint(t *testing.T, calls []api.Call, e api.Errno) {
	t.Helper()
	if text, f := script.Print(calls); text != "" || f != e {
		t.Fatalf("Print of %d calls: %.60q, %v; not %v", len(calls), text, f, e)
	}
}

// wantsLine asks that a line and a call are each other's.
func wantsLine(t *testing.T, line string, c api.Call) {
	t.Helper()
	wantsParse(t, line, []api.Call{c}, 0, api.OK)
	wantsParse(t, line+"\n", []api.Call{c}, 0, api.OK)
	if got := printed(t, []api.Call{c}); got != line+"\n" {
		t.Fatalf("Print of %+v: %.60q, not %.60q", c, got, line)
	}
}

// noLine asks that a text is no line, wherever it stands.
func noLine(t *testing.T, line string) {
	t.Helper()
	if line != "" {
		refusesParse(t, line, 0, api.EFORM)
		refusesParse(t, "trim\nstats\n"+line, 2, api.EFORM)
	}
	refusesParse(t, line+"\n", 0, api.EFORM)
	refusesParse(t, "trim\n"+line+"\nstats\n"+line, 1, api.EFORM)
}
