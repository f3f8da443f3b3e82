package script_test

import (
	"strings"
	"testing"

	"croft/api"
	"croft/script"
)

// P12.7: Parse of what Print tells is the calls.
func TestParseOfPrint(t *testing.T) {
	for seed := range 400 {
		row := numbers(seed)
		calls := tellables(row.below(200), &row)
		wantsParse(t, printed(t, calls), calls, 0, api.OK)
	}
	for _, op := range ops() {
		for seed := range 400 {
			row := numbers(seed)
			if c := tellable(&row); c.Op == op {
				wantsLine(t, strings.TrimSuffix(callLine(c), "\n"), c)
			}
		}
	}
}

// P12.7: Print of what Parse tells is the text, with a byte 10 at its end if it had bytes and none there.
func TestPrintOfParse(t *testing.T) {
	found := 0
	for seed := range 20000 {
		row := numbers(seed)
		text := spoiltText(printed(t, tellables(1+row.below(2), &row)), &row)
		calls, _, e := script.Parse(text)
		if e != api.OK {
			continue
		}
		found++
		want := text
		if text != "" && !strings.HasSuffix(text, "\n") {
			want += "\n"
		}
		if got := printed(t, calls); got != want {
			t.Fatalf("Print of Parse of %q: %q", text, got)
		}
	}
	if found < 1000 {
		t.Errorf("%d texts had calls", found)
	}
	if printed(t, parsed(t, "")) != "" {
		t.Error("the empty text")
	}
}

// P12.7: the one text that Parse takes and whose calls have none: it has MaxText bytes, and no byte 10 at its end.
func TestPrintOfParseAtTheLimit(t *testing.T) {
	row := numbers(11)
	text := printed(t, long(t, 1<<20, &row))
	if got := printed(t, parsed(t, text[:1<<20-1])); got != text {
		t.Error("a byte 10 is not put to the text")
	}
	calls := long(t, 1<<20+1, &row)
	text, _ = callsText(calls[:len(calls)-1])
	text += strings.TrimSuffix(callLine(calls[len(calls)-1]), "\n")
	refusesPrint(t, parsed(t, text), api.EFORM)
}

// P12.7: Play of calls, and then of others in which no Ref is above 0, answers what Play of all together answers.
func TestPlayInParts(t *testing.T) {
	for seed := range 60 {
		row := numbers(seed)
		c := config(seed%9, 1+seed%3)
		h, whole := twins(t, c, seed, seed%2*40)
		_, parts := twins(t, c, seed, seed%2*40)
		var calls []api.Call
		var answers []api.Answer
		for range 100 {
			next := drawnCall(h, answers, &row)
			if len(calls) >= 60 && next.Ref > 0 {
				next.Ref = -row.below(2) * next.Ref
			}
			calls = append(calls, next)
			answers = append(answers, script.One(h, next, answers))
		}
		all := played(t, whole, calls)
		got := append(played(t, parts, calls[:60]), played(t, parts, calls[60:])...)
		if !sameAnswers(got, all) || !sameAnswers(got, answers) {
			t.Fatalf("%+v, not %+v", got, all)
		}
		if !sameHeap(whole, parts) || !sameHeap(whole, h) {
			t.Fatal("other heaps")
		}
	}
}

// P12.7: the same at the limit: MaxCalls in two parts, and the whole.
func TestPlayInPartsAtTheLimit(t *testing.T) {
	row := numbers(12)
	one, other := newHeap(t, config(3, 4)), newHeap(t, config(3, 4))
	calls := make([]api.Call, 4096)
	for i := range calls {
		calls[i] = api.Call{Op: oneOf(&row, ops()...), P: config(3, 4).Base + 16*uint64(row.below(300)), A: uint64(row.below(64)), B: 1}
	}
	all := played(t, one, calls)
	got := append(played(t, other, calls[:1000]), played(t, other, calls[1000:])...)
	if !sameAnswers(got, all) || !sameHeap(one, other) {
		t.Error("other answers in parts")
	}
}

// P12.1 to P12.7: a script that is told as text and read again is played as it would have been.
func TestPlayOfText(t *testing.T) {
	for seed := range 60 {
		row := numbers(seed)
		h, twin := twins(t, config(seed%9, 2), seed, 20)
		var calls []api.Call
		var answers []api.Answer
		for len(calls) < 80 {
			c := drawnCall(h, answers, &row)
			if _, e := callsText([]api.Call{c}); e != api.OK {
				continue
			}
			calls = append(calls, c)
			answers = append(answers, script.One(h, c, answers))
		}
		if got := played(t, twin, parsed(t, printed(t, calls))); !sameAnswers(got, answers) || !sameHeap(h, twin) {
			t.Fatalf("%+v, not %+v", got, answers)
		}
	}
}
