package shell_test

import (
	"slices"
	"strings"
	"testing"

	"croft/api"
	"croft/shell"
)

// wantsText asks for what a text says, byte by byte.
func wantsText(t *testing.T, text, want string) {
	t.Helper()
	if got, e := shell.Run(text); got != want || e != api.OK {
		t.Errorf("%.60q: %.200q, %v; not %.200q", text, got, e, want)
	}
}

// wantsLimit asks that a text is refused, whatever it holds.
func wantsLimit(t *testing.T, text string) {
	t.Helper()
	if got, e := shell.Run(text); got != "" || e != api.ELIMIT {
		t.Errorf("%d bytes, %d lines: %.60q, %v", len(text), strings.Count(text, "\n")+1, got, e)
	}
}

// P21.1: a text is cut at each byte 10; what stands behind the last one is a line too, if it has a byte. Each line that is said ends by one.
func TestCut(t *testing.T) {
	wantsText(t, "", "")
	wantsText(t, "\n", "")
	wantsText(t, "\n\n\n", "")
	wantsText(t, "clear", "ok\n")
	wantsText(t, "clear\n", "ok\n")
	wantsText(t, "clear\nclear", "ok\nok\n")
	wantsText(t, "clear\nclear\n", "ok\nok\n")
	wantsText(t, "\nclear", "ok\n")
	wantsText(t, "\n\nclear\n\n\nclear\n\n", "ok\nok\n")
	wantsText(t, "live", "error 9\n")
	wantsText(t, "x", "error 7\n")
	wantsText(t, "clear\nx", "ok\nerror 7\n")
	wantsText(t, "heap 65536 1 0\nmalloc 1\nmalloc 2\nlive", "ok\nok 65536\nok 65552\n65536 16\n65552 16\n")
	wantsText(t, "heap 65536 1 0\nmalloc 1\nmalloc 2\nlive\n", "ok\nok 65536\nok 65552\n65536 16\n65552 16\n")
}

// P21.1: no other byte ends a line.
func TestNoOtherEnd(t *testing.T) {
	for b := range 256 {
		one := string([]byte{byte(b)})
		switch one {
		case "\n":
			continue
		case "#":
			wantsText(t, "#\nclear", "ok\n")
			wantsText(t, "clear\n#", "ok\n")
		default:
			wantsText(t, one, "error 7\n")
			wantsText(t, one+"\nclear", "error 7\nok\n")
			wantsText(t, "clear\n"+one, "ok\nerror 7\n")
		}
		wantsText(t, "clear"+one+"clear", "error 7\n")
		wantsText(t, "clear"+one+"\nclear", "error 7\nok\n")
	}
	for _, end := range []string{"\r\n", "\r", "\u2028", "\u2029", "\u0085", "\v", "\f", "\x00", "|", ";", "\\n"} {
		ended := strings.HasSuffix(end, "\n")
		wantsText(t, "clear"+end+"clear", map[bool]string{false: "error 7\n", true: "error 7\nok\n"}[ended])
	}
}

// P21.1: a line that is empty, or begins with `#`, says nothing, and is not done.
func TestRemarks(t *testing.T) {
	for _, line := range []string{"", "#", "##", "# ", "# malloc 1", "#malloc 1", "#\x00", "#\xff\xfe", "#é", "#\r", "# heap 0 0 0", "#clear", remarks(1000)} {
		wantsText(t, line, "")
		wantsText(t, line+"\n", "")
		wantsText(t, line+"\n"+line, "")
		wantsText(t, "heap 65536 1 0\n"+line+"\nmalloc 1\n"+line+"\nload $2\nlive\n"+line, "ok\nok 65536\nerror 1\n65536 16\n")
	}
	for _, line := range []string{" #", " ", "\t#", "clear #", "clear # it", "clear#", "x#", "\x00#", "\ufeff#", "＃"} {
		wantsText(t, line, "error 7\n")
		wantsText(t, "clear\n"+line+"\nclear\n", "ok\nerror 7\nok\n")
	}
}

// P21.1: one blank stands between two words; none stands at a line's beginning, at its end, or beside another, and nothing else parts words.
func TestBlanks(t *testing.T) {
	first := said(t, all)
	for _, r := range rows() {
		line := r.line()
		if r.deny {
			line += " !"
		}
		var wrong []string
		for i := range len(line) + 1 {
			for _, other := range []string{" ", "\t", "\r", "\x00", "\u00a0", "\u3000", "\xff"} {
				wrong = append(wrong, line[:i]+other+line[i:])
				if i < len(line) && line[i] == ' ' && other != " " {
					wrong = append(wrong, line[:i]+other+line[i+1:])
				}
			}
			if i < len(line) && line[i] == ' ' {
				wrong = append(wrong, line[:i]+line[i+1:])
			}
		}
		wrong = slices.DeleteFunc(wrong, isLine)
		got := said(t, all+"\n"+strings.Join(wrong, "\n"))[len(first):]
		if len(got) != len(wrong) || slices.ContainsFunc(got, func(line string) bool { return line != "error 7" }) {
			t.Errorf("%q: %v", wrong, got)
		}
	}
}

// P21.1: a text of MaxText bytes may be, with its last byte 10 and without; one of a byte more is refused, whatever it holds.
func TestTextLimit(t *testing.T) {
	for _, n := range []int{1<<20 - 1, 1 << 20} {
		wantsText(t, remarks(n), "")
		wantsText(t, remarks(n-1)+"\n", "")
		wantsText(t, "clear\n"+remarks(n-12)+"\nclear", "ok\nok\n")
		wantsText(t, strings.Repeat("x", n), "error 7\n")
		wantsText(t, strings.Repeat(" ", n), "error 7\n")
		wantsText(t, "table "+strings.Repeat("a", n-6), "error 7\n")
		wantsText(t, "malloc "+strings.Repeat("1", n-7), "error 7\n")
		wantsText(t, "get t "+strings.Repeat("0", n&^1-6), "error 9\n")
	}
	for _, n := range []int{1<<20 + 1, 1<<20 + 2, 1 << 21, 1 << 22} {
		wantsLimit(t, remarks(n))
		wantsLimit(t, remarks(n-1)+"\n")
		wantsLimit(t, "clear\n"+remarks(n-6))
		wantsLimit(t, remarks(n-6)+"\nclear")
		wantsLimit(t, strings.Repeat("\n", n))
		wantsLimit(t, strings.Repeat("\x00", n))
		wantsLimit(t, strings.Repeat("\xff", n))
	}
}

// P21.1: MaxLines lines may be, empty ones and remarks counted; one more may not. What stands behind the last byte 10 is a line only if it has a byte.
func TestLinesLimit(t *testing.T) {
	for _, line := range []string{"", "#", "# x", "clear", "x", " "} {
		saying := map[string]string{"clear": "ok\n", "x": "error 7\n", " ": "error 7\n"}[line]
		for _, n := range []int{1, 2, 998, 999} {
			text := strings.Repeat(line+"\n", n)
			wantsText(t, text, strings.Repeat(saying, n))
			wantsText(t, text+line, strings.Repeat(saying, n)+map[bool]string{true: saying}[line != ""])
			wantsText(t, text+line+"\n", strings.Repeat(saying, n+1))
			wantsText(t, text+"clear", strings.Repeat(saying, n)+"ok\n")
			wantsText(t, text+"clear\n", strings.Repeat(saying, n)+"ok\n")
		}
		text := strings.Repeat(line+"\n", 1000)
		wantsText(t, text, strings.Repeat(saying, 1000))
		for _, rest := range []string{"\n", "#", "x", "clear", " ", "clear\n", "\n\n", "\nclear", text} {
			wantsLimit(t, text+rest)
		}
		wantsLimit(t, strings.Repeat(line+"\n", 5000))
	}
}

// P21.6: what the first lines say does not hang on those behind; nor on remarks and empty lines anywhere.
func TestFirstLines(t *testing.T) {
	for seed := range 60 {
		row := numbers(seed)
		list := someText(&row, 120)
		whole := run(t, strings.Join(list, "\n"))
		for range 10 {
			n := row.below(len(list) + 1)
			first := run(t, strings.Join(list[:n], "\n"))
			if !strings.HasPrefix(whole, first) {
				t.Fatalf("seed %d: the first %d lines say\n%s\nwith others behind\n%s", seed, n, first, whole)
			}
			other := someText(&row, 40)
			if !strings.HasPrefix(run(t, strings.Join(slices.Concat(list[:n], other), "\n")), first) {
				t.Fatalf("seed %d: the first %d lines say something else ahead of %q", seed, n, other)
			}
		}
		var between []string
		for _, line := range list {
			for range row.below(3) {
				between = append(between, oneOf(&row, "", "#", "# "+line, "#"+line, "##"))
			}
			between = append(between, line)
		}
		if run(t, strings.Join(between, "\n")) != whole {
			t.Fatalf("seed %d: remarks change what is said", seed)
		}
	}
}
