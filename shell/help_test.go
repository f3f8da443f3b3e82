package shell_test

import (
	"slices"
	"strings"
	"testing"

	"croft/api"
	"croft/shell"
)

// numbers gives the same long row of numbers each time.
type numbers uint64

func (n *numbers) below(end int) int {
	*n = *n*6364136223846793005 + 1442695040888963407
	return int(uint64(*n) >> 33 % uint64(end))
}

// word tells one of 64 bits.
func (n *numbers) word() uint64 {
	return uint64(n.below(1<<31))<<33 ^ uint64(n.below(1<<31))<<16 ^ uint64(n.below(1<<31))
}

// bytes tells so many.
func (n *numbers) bytes(count int) []byte {
	list := make([]byte, count)
	for i := range list {
		list[i] = byte(n.below(256))
	}
	return list
}

// oneOf tells one of a list.
func oneOf[T any](row *numbers, list ...T) T { return list[row.below(len(list))] }

// lines makes a text of lines that are parted by strokes.
func lines(text string) string { return strings.ReplaceAll(text, "|", "\n") }

// strokes is the other way round, without a stroke at the end.
func strokes(text string) string {
	return strings.TrimSuffix(strings.ReplaceAll(text, "\n", "|"), "|")
}

// run tells what a text says that may be.
func run(t *testing.T, text string) string {
	t.Helper()
	said, e := shell.Run(text)
	if e != api.OK {
		t.Fatalf("Run(%.200q): %v", text, e)
	}
	if said != "" && !strings.HasSuffix(said, "\n") {
		t.Fatalf("Run(%.200q): the last line is not ended", text)
	}
	return said
}

// said tells the lines that a text of such lines says.
func said(t *testing.T, text string) []string {
	t.Helper()
	list := strings.Split(run(t, lines(text)), "\n")
	return list[:len(list)-1]
}

// wants asks for what a text says; the lines of both are parted by strokes.
func wants(t *testing.T, text, want string) {
	t.Helper()
	if got := strokes(run(t, lines(text))); got != want {
		t.Errorf("%.3000s\n got %.3000s\nwant %.3000s", text, got, want)
	}
}

// ends asks for what the last line of a text says.
func ends(t *testing.T, text, want string) {
	t.Helper()
	list := said(t, text)
	if len(list) == 0 || list[len(list)-1] != want {
		t.Errorf("%.3000s\n got %.200q\nwant %q at the end", text, list, want)
	}
}

// join puts texts behind one another.
func join(texts ...string) string {
	return strings.Join(slices.DeleteFunc(texts, func(text string) bool { return text == "" }), "|")
}

// all is a text behind which there is something of each kind: a heap with two answers, an image i, a table t, an arena a, objects o with a root r, and a vault.
const all = "heap 65536 8 2|malloc 100|malloc 5000|save i|table t|set t 61 7879|set t - 00|arena a 100|take a 10 1|mark a|" +
	"objects o|make o 2 3|make o 1 0|put o 81920 1 86016|make o 0 1|root o r 81920|vault 1048576 4 1|vmalloc 100|vmalloc 5000|vwrite 1 3 0102|pin 2"

// look is a text that tells what there is behind all, the number of answers, too.
const look = "live|pages|sizes|freelists|waste 128|names|check i|keys t|word o 81920 1|vstats|vread 1 0 9|unpin 2|unpin 2|calloc 2 300|usable $3|" +
	"take a 5 1|release a 0|collect o|unroot o r|unroot o r|stats|restore i|names|live"

// refuses asks that a line, behind a text, says this alone, and changes nothing of what those of another text say behind it.
func refuses(t *testing.T, ahead, line, behind, want string) {
	t.Helper()
	first := said(t, ahead)
	rest := said(t, join(ahead, behind))[len(first):]
	got := said(t, join(ahead, line, behind))
	if !slices.Equal(got, slices.Concat(first, []string{want}, rest)) {
		t.Errorf("%s: %s between %s and %s", line, strings.Join(got, "|"), strings.Join(first, "|"), strings.Join(rest, "|"))
	}
}

// row is a row of the tables in the chapters 12 and 21: what the line needs, its word, and its fields; deny, if `!` may stand behind them.
type row struct {
	need, word string
	fields     []string
	deny       bool
}

// The lines that there are, by what they need: nothing, the heap, the vault, a name of some kind.
const table = `-: heap N N N; names; clear; vault N N N
heap: malloc N !; calloc N N !; aligned N N !; realloc ADDRESS N !; free ADDRESS; usable ADDRESS; load ADDRESS; loadword ADDRESS
heap: store ADDRESS N; storeword ADDRESS N; read ADDRESS N; write ADDRESS HEX; trim; stats
heap: live; pages; sizes; freelists; waste N; stuck N !; nofit N; save NAME; table NAME !; arena NAME N; objects NAME
image: restore NAME; check NAME
name: drop NAME
table: set NAME HEX HEX !; get NAME HEX; del NAME HEX; keys NAME
arena: take NAME N N !; mark NAME; release NAME N
objects: make NAME N N !; put NAME ADDRESS N ADDRESS; word NAME ADDRESS N; root NAME NAME ADDRESS; unroot NAME NAME; collect NAME
vault: vmalloc N !; vfree N; pin N; unpin N; compact; vwrite N N HEX; vread N N N; vstats`

// rows tells them all.
func rows() []row {
	var list []row
	for line := range strings.SplitSeq(table, "\n") {
		need, forms, _ := strings.Cut(line, ": ")
		for form := range strings.SplitSeq(forms, "; ") {
			form, deny := strings.CutSuffix(form, " !")
			words := strings.Split(form, " ")
			list = append(list, row{need, words[0], words[1:], deny})
		}
	}
	return list
}

// nameOf tells the name of a thing of a kind that is there behind all.
func nameOf(need string) string {
	switch need {
	case "image":
		return "i"
	case "table", "name":
		return "t"
	case "arena":
		return "a"
	case "objects":
		return "o"
	}
	return "new"
}

// words tells those of a line of the row that has its form, and may be done behind all.
func (r row) words() []string {
	list := []string{r.word}
	for i, field := range r.fields {
		switch field {
		case "NAME": // the second one is a root's
			list = append(list, []string{nameOf(r.need), "r"}[min(i, 1)])
		case "N":
			list = append(list, "1")
		case "ADDRESS":
			list = append(list, "$1")
		case "HEX":
			list = append(list, "61")
		}
	}
	return list
}

// line tells such a line.
func (r row) line() string { return strings.Join(r.words(), " ") }

// remarks tells so many bytes that say nothing, wherever a line begins.
func remarks(bytes int) string { return strings.Repeat("#", bytes) }
