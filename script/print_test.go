package script_test

import (
	"slices"
	"strings"
	"testing"

	"croft/api"
	"croft/script"
)

// tellable tells a call that has a line.
func tellable(row *numbers) api.Call {
	number := func() uint64 { return oneOf(row, row.word(), row.word()>>row.below(64), oneOf(row, edges()...)) }
	c := api.Call{Op: oneOf(row, ops()...)}
	switch c.Op {
	case api.OpMalloc, api.OpCalloc, api.OpAligned, api.OpTrim, api.OpStats:
	default:
		c.Ref, c.P = oneOf(row, 0, 1, 1+row.below(4096), 4096), oneOf(row, 0, number())
	}
	switch c.Op {
	case api.OpMalloc, api.OpCalloc, api.OpAligned, api.OpRealloc, api.OpStore, api.OpStoreWord, api.OpRead:
		c.A = number()
	}
	if c.Op == api.OpCalloc || c.Op == api.OpAligned {
		c.B = number()
	}
	if c.Op <= api.OpRealloc {
		c.Deny = row.below(2) == 0
	}
	if c.Op == api.OpWrite {
		c.Data = row.bytes(row.below(20))
	}
	return c
}

// tellables tells some of them.
func tellables(count int, row *numbers) []api.Call {
	var calls []api.Call
	for range count {
		calls = append(calls, tellable(row))
	}
	return calls
}

// wantsText asks for what the model of P12.6 tells of calls.
func wantsText(t *testing.T, calls []api.Call) api.Errno {
	t.Helper()
	want, e := callsText(calls)
	got, f := script.Print(calls)
	if got != want || f != e {
		t.Fatalf("Print(%.300v): %.60q, %v; not %.60q, %v", calls, got, f, want, e)
	}
	return e
}

// P12.6: no call at all has an empty text.
func TestPrintNothing(t *testing.T) {
	for _, calls := range [][]api.Call{nil, {}} {
		if text, e := script.Print(calls); text != "" || e != api.OK {
			t.Errorf("Print of nothing: %q, %v", text, e)
		}
	}
}

// P12.6: an Op that is none can't be told.
func TestPrintNoOps(t *testing.T) {
	for _, op := range noOps() {
		refusesPrint(t, []api.Call{{Op: op}}, api.EFORM)
		refusesPrint(t, []api.Call{{Op: op, A: 1}}, api.EFORM)
		refusesPrint(t, []api.Call{{Op: api.OpTrim}, {Op: op}, {Op: api.OpTrim}}, api.EFORM)
	}
}

// P12.6: field by field, of each Op: a line tells it, or a call that holds something there can't be told.
func TestPrintFields(t *testing.T) {
	told := map[string]string{ // for each field the words of the lines that tell it
		"address": "realloc free usable load store loadword storeword read write",
		"a":       "malloc calloc aligned realloc store storeword read",
		"b":       "calloc aligned",
		"deny":    "malloc calloc aligned realloc",
		"data":    "write",
	}
	for _, op := range ops() {
		printed(t, []api.Call{{Op: op}})
		printed(t, []api.Call{{Op: op, Data: []byte{}}})
		for field, list := range map[string][]api.Call{
			"address": {{Ref: 1}, {Ref: 4096}, {P: 1}, {P: 1<<64 - 1}, {Ref: 1, P: 1}, {Ref: 4096, P: 1 << 63}},
			"a":       {{A: 1}, {A: 1 << 32}, {A: 1 << 63}, {A: 1<<64 - 1}},
			"b":       {{B: 1}, {B: 1 << 32}, {B: 1 << 63}, {B: 1<<64 - 1}},
			"deny":    {{Deny: true}},
			"data":    {{Data: []byte{0}}, {Data: []byte{1, 2}}, {Data: make([]byte, 65536)}},
		} {
			for _, c := range list {
				c.Op = op
				if slices.Contains(strings.Fields(told[field]), opWord(op)) {
					wantsLine(t, strings.TrimSuffix(callLine(c), "\n"), c)
				} else {
					refusesPrint(t, []api.Call{c}, api.EFORM)
					refusesPrint(t, []api.Call{{Op: api.OpStats}, c}, api.EFORM)
				}
			}
		}
	}
}

// P12.6: a Ref from 0 to MaxCalls can be told, where there is an address; no other one anywhere.
func TestPrintRefs(t *testing.T) {
	for _, op := range ops() {
		for _, ref := range []int{-1, -2, -4096, 4097, 4098, 1 << 32, 1<<32 + 1, 1<<63 - 1, -1 << 63} {
			refusesPrint(t, []api.Call{{Op: op, Ref: ref}}, api.EFORM)
			refusesPrint(t, []api.Call{{Op: op, Ref: ref, P: 1}}, api.EFORM)
		}
	}
}

// P12.6: Data of more than MaxData bytes can't be told, in no line.
func TestPrintDataLimit(t *testing.T) {
	for _, op := range ops() {
		for _, count := range []int{65537, 65538, 100000} {
			refusesPrint(t, []api.Call{{Op: op, Data: make([]byte, count)}}, api.EFORM)
		}
	}
}

// P12.6: MaxCalls calls have a text; of one more ELIMIT is told, whatever the calls are.
func TestPrintLimit(t *testing.T) {
	row := numbers(4)
	calls := tellables(4096, &row)
	if wantsText(t, calls) != api.OK || wantsText(t, calls[1:]) != api.OK {
		t.Error("MaxCalls calls have no text")
	}
	refusesPrint(t, append(slices.Clone(calls), calls[0]), api.ELIMIT)
	refusesPrint(t, append(slices.Clone(calls), api.Call{}), api.ELIMIT)
	refusesPrint(t, make([]api.Call, 4097), api.ELIMIT)
	refusesPrint(t, make([]api.Call, 4096), api.EFORM)
	refusesPrint(t, slices.Repeat([]api.Call{{Op: api.OpWrite, Data: make([]byte, 65536)}}, 4097), api.ELIMIT)
}

// P12.6: a text has at most MaxText bytes.
func TestPrintTextLimit(t *testing.T) {
	row := numbers(6)
	for _, count := range []int{1<<20 - 2, 1<<20 - 1, 1 << 20} {
		if text := printed(t, long(t, count, &row)); len(text) != count {
			t.Errorf("%d bytes, not %d", len(text), count)
		}
	}
	for _, count := range []int{1<<20 + 1, 1<<20 + 2, 1<<20 + 140000, 1 << 21} {
		calls := long(t, count, &row)
		refusesPrint(t, calls, api.EFORM)
		refusesPrint(t, append(calls, api.Call{}), api.EFORM)
	}
	full := long(t, 1<<20, &row)
	refusesPrint(t, append(slices.Clone(full), api.Call{Op: api.OpTrim}), api.EFORM)
	refusesPrint(t, slices.Insert(slices.Clone(full), 0, api.Call{Op: api.OpTrim}), api.EFORM)
	refusesPrint(t, slices.Repeat([]api.Call{{Op: api.OpWrite, Data: make([]byte, 65536)}}, 4096), api.EFORM)
}

// P12.6: calls, one by one, of which some were spoilt.
func TestPrintAgainstModel(t *testing.T) {
	met := map[api.Errno]int{}
	for seed := range 20000 {
		row := numbers(seed)
		calls := tellables(1+row.below(3), &row)
		if row.below(3) > 0 {
			i := row.below(len(calls))
			calls[i] = wrong(calls[i], row.below(4097), &row)
		}
		met[wantsText(t, calls)]++
	}
	if met[api.OK] < 1000 || met[api.EFORM] < 1000 {
		t.Errorf("met %v", met)
	}
}
