package shell_test

import (
	"strings"
	"sync"
	"testing"
	"unsafe"

	"croft/api"
	"croft/shell"
)

// R5: a text says the same each time, whatever other texts were done between: in whatever order maps are gone through, and wherever memory lies.
func TestSameAnswers(t *testing.T) {
	for seed := range 40 {
		row := numbers(seed)
		text, other := strings.Join(someText(&row, 200), "\n"), strings.Join(someText(&row, 100), "\n")
		want := run(t, text)
		for range 5 {
			run(t, other)
			if run(t, strings.Clone(text)) != want {
				t.Fatalf("seed %d: something else is said", seed)
			}
		}
	}
}

// R5: two runs have nothing in common: a heap, names, a vault and answers of one are not there in the next.
func TestNothingStays(t *testing.T) {
	for range 3 {
		run(t, lines(all))
		for _, r := range rows() {
			switch r.need {
			case "-":
			default:
				wants(t, r.line(), "error 9")
			}
		}
		wants(t, "names|heap 65536 1 0|names|usable $1|live|stats|vstats", "ok|error 1|ok 0 0 0 0|error 9")
		wants(t, "vault 65536 1 1|vread 1 0 1|vmalloc 1|stats", "ok|error 1|1|error 9")
	}
}

// R5: several texts may be done at the same time.
func TestTogether(t *testing.T) {
	texts, want := make([]string, 8), make([]string, 8)
	for i := range texts {
		row := numbers(i % 5)
		texts[i] = strings.Join(someText(&row, 150), "\n")
		want[i] = run(t, texts[i])
	}
	var all sync.WaitGroup
	for i := range texts {
		all.Go(func() {
			for range 5 {
				if got, e := shell.Run(texts[i]); got != want[i] || e != api.OK {
					t.Errorf("the text %d says something else: %v", i, e)
				}
			}
		})
	}
	all.Wait()
}

// R4: what is said is new memory, and none of the text's: the bytes in which the text lay may become others then.
func TestTextIsNotKept(t *testing.T) {
	for seed := range 20 {
		row := numbers(seed)
		text := lines(join(all, look, "table "+strings.Repeat("n", 16), "names", "set "+strings.Repeat("n", 16)+" 616263 00112233", "keys "+strings.Repeat("n", 16), strings.Join(someText(&row, 50), "|")))
		want := run(t, text)
		bytes := []byte(text)
		got := run(t, unsafe.String(&bytes[0], len(bytes)))
		if string(bytes) != text {
			t.Fatal("the text was changed")
		}
		for i := range bytes {
			bytes[i] = 'x'
		}
		if got != want {
			t.Fatal("what is said shares memory with the text")
		}
	}
}

// R3, P21.3: a line that is refused changes nothing, whatever it is refused for, but that one of chapter 12 is an answer.
func TestRefusedLines(t *testing.T) {
	for seed := range 40 {
		row := numbers(seed)
		p := &pen{numbers: &row, book: newBook()}
		p.write("heap 65536 %d %d", 1+row.below(4), row.below(4))
		p.write("vault 1048576 %d %d", 1+row.below(4), row.below(4))
		for len(p.lines) < 80 {
			p.draw()
		}
		ahead := strings.Join(p.lines, "|")
		p.lines = nil
		for len(p.lines) < 12 {
			p.draw()
		}
		first, tail := said(t, ahead), "live|pages|sizes|freelists|names|vstats"
		for _, name := range p.named("table") {
			tail += "|keys " + name
		}
		rest := said(t, ahead+"|"+tail)[len(first):]
		for _, line := range p.lines {
			got := said(t, ahead+"|"+line)[len(first):]
			if len(got) != 1 || !strings.HasPrefix(got[0], "error") || mayGrow(line) {
				continue
			}
			if behind := said(t, ahead+"|"+line+"|"+tail)[len(first)+1:]; strings.Join(behind, "|") != strings.Join(rest, "|") {
				t.Fatalf("seed %d: %s says %s, and changes something: %q, not %q", seed, line, got, behind, rest)
			}
		}
	}
}

// mayGrow says whether a line's call may get a region though it is refused: a row of a table that goes again.
func mayGrow(line string) bool { return strings.HasPrefix(line, "set ") }
