package script_test

import (
	"bytes"
	"fmt"
	"slices"
	"strings"
	"testing"

	"croft/api"
)

// P12.4: a line of each form, without a mark and with all of them.
func TestForms(t *testing.T) {
	wantsLine(t, "malloc 7", api.Call{Op: api.OpMalloc, A: 7})
	wantsLine(t, "malloc 7 !", api.Call{Op: api.OpMalloc, A: 7, Deny: true})
	wantsLine(t, "calloc 7 8", api.Call{Op: api.OpCalloc, A: 7, B: 8})
	wantsLine(t, "calloc 7 8 !", api.Call{Op: api.OpCalloc, A: 7, B: 8, Deny: true})
	wantsLine(t, "aligned 7 8", api.Call{Op: api.OpAligned, A: 7, B: 8})
	wantsLine(t, "aligned 7 8 !", api.Call{Op: api.OpAligned, A: 7, B: 8, Deny: true})
	for text, c := range map[string]api.Call{"9": {P: 9}, "$9": {Ref: 9}, "$9+5": {Ref: 9, P: 5}} {
		for word, op := range map[string]int{"free": api.OpFree, "usable": api.OpUsable, "load": api.OpLoad, "loadword": api.OpLoadWord} {
			wantsLine(t, word+" "+text, api.Call{Op: op, Ref: c.Ref, P: c.P})
		}
		for word, op := range map[string]int{"realloc": api.OpRealloc, "store": api.OpStore, "storeword": api.OpStoreWord, "read": api.OpRead} {
			wantsLine(t, word+" "+text+" 7", api.Call{Op: op, Ref: c.Ref, P: c.P, A: 7})
		}
		wantsLine(t, "realloc "+text+" 7 !", api.Call{Op: api.OpRealloc, Ref: c.Ref, P: c.P, A: 7, Deny: true})
		wantsLine(t, "write "+text+" 00ff7a", api.Call{Op: api.OpWrite, Ref: c.Ref, P: c.P, Data: []byte{0, 255, 0x7a}})
		wantsLine(t, "write "+text+" -", api.Call{Op: api.OpWrite, Ref: c.Ref, P: c.P})
	}
	wantsLine(t, "trim", api.Call{Op: api.OpTrim})
	wantsLine(t, "stats", api.Call{Op: api.OpStats})
}

// P12.4: numbers at their edges, in every field that is one.
func TestNumbers(t *testing.T) {
	for _, v := range append(edges(), 9, 10, 99, 100, 1e18, 10000000000000000000) {
		wantsLine(t, fmt.Sprintf("malloc %d", v), api.Call{Op: api.OpMalloc, A: v})
		wantsLine(t, fmt.Sprintf("calloc %d 1", v), api.Call{Op: api.OpCalloc, A: v, B: 1})
		wantsLine(t, fmt.Sprintf("aligned 1 %d !", v), api.Call{Op: api.OpAligned, A: 1, B: v, Deny: true})
		wantsLine(t, fmt.Sprintf("store %d %d", v, v), api.Call{Op: api.OpStore, P: v, A: v})
		wantsLine(t, fmt.Sprintf("realloc $1 %d", v), api.Call{Op: api.OpRealloc, Ref: 1, A: v})
		wantsLine(t, fmt.Sprintf("load %d", v), api.Call{Op: api.OpLoad, P: v})
		if v > 0 {
			wantsLine(t, fmt.Sprintf("read $2+%d 0", v), api.Call{Op: api.OpRead, Ref: 2, P: v})
		}
	}
	for _, word := range []string{
		"", "00", "01", "0000", "007", "18446744073709551616", "18446744073709551617", "28446744073709551615", "99999999999999999999",
		"100000000000000000000", "018446744073709551615", "+1", "-1", "-0", "+0", "+", "-", "1.0", "1.", ".1", "1e3", "0x1", "0b1", "0o7", "1_0", "_1",
		"a", "f", "A", "1a", "a1", "$1", "!", "1!", "!1", "1,", "\t1", "1\t", "1\r", "\r", "1\x00", "\x00", "１", "٣", "1\u00a0", "1\u200b", "\ufeff1", "1\x80", "\xff", "²",
		strings.Repeat("1", 21), strings.Repeat("9", 400), strings.Repeat("0", 400),
	} {
		for _, line := range []string{"malloc %s", "malloc %s !", "calloc %s 1", "calloc 1 %s", "aligned %s 1", "aligned 1 %s !", "realloc 1 %s", "store $1 %s", "storeword 1 %s", "read $1+1 %s"} {
			noLine(t, fmt.Sprintf(line, word))
		}
		if word != "$1" {
			noLine(t, "free "+word)
			noLine(t, "load "+word)
			noLine(t, "read "+word+" 1")
			noLine(t, "write "+word+" 00")
		}
	}
}

// P12.4: `$` and a number from 1 to MaxCalls, and `+` and a number from 1 on.
func TestAnswersAddresses(t *testing.T) {
	for ref := 1; ref <= 4096; ref++ {
		wantsLine(t, fmt.Sprintf("free $%d", ref), api.Call{Op: api.OpFree, Ref: ref})
		if ref < 8 || ref > 4090 {
			wantsLine(t, fmt.Sprintf("store $%d+%d 0", ref, ref), api.Call{Op: api.OpStore, Ref: ref, P: uint64(ref)})
		}
	}
	for _, word := range []string{
		"$", "$0", "$00", "$01", "$04096", "$4097", "$4098", "$5000", "$40960", "$18446744073709551615", "$18446744073709551616", "$18446744073709551617",
		"$1+", "$+", "$+1", "$1+0", "$1+00", "$1+01", "$1+18446744073709551616", "$0+1", "$4097+1", "$01+1", "$1++1", "$1+1+1", "$1+1+", "$1+-1", "$1-1", "$-1", "$+1+1",
		"$$1", "1$", "$1$", "$1+$1", "1+1", "+$1", "-$1", "!$1", "$!", "$1!", "$a", "$1+a", "$1+0x1", "$1 +1", "$ 1", "$1+ 1", "$1+1 ", " $1", "＄1", "$１", "$1＋1", "$1\t", "$1+1\r",
	} {
		for _, line := range []string{"free %s", "usable %s", "load %s", "loadword %s", "store %s 1", "storeword %s 1", "read %s 1", "realloc %s 1", "realloc %s 1 !", "write %s 00", "write %s -"} {
			noLine(t, fmt.Sprintf(line, word))
		}
	}
}

// P12.4: Data is two digits a byte, of 0 to 9 and a to f; `-` is none.
func TestData(t *testing.T) {
	for b := range 256 {
		wantsLine(t, fmt.Sprintf("write 1 %02x", b), api.Call{Op: api.OpWrite, P: 1, Data: []byte{byte(b)}})
		wantsLine(t, fmt.Sprintf("write $1 00%02xff", b), api.Call{Op: api.OpWrite, Ref: 1, Data: []byte{0, byte(b), 255}})
		if char := string([]byte{byte(b)}); !strings.Contains("0123456789abcdef\n", char) {
			noLine(t, "write 1 0"+char)
			noLine(t, "write 1 "+char+"0")
			noLine(t, "write 1 0"+char+"ff")
			noLine(t, "write 1 ff"+char+char)
		}
	}
	for _, word := range []string{"", "0", "000", "abc", "--", "---", "-0", "-00", "00-", "0-", "0A", "A0", "FF", "fF", "0x00", "00 00", "é0", "0é", "-!", "- !", "00 !", "$1", "g0", strings.Repeat("0", 399)} {
		noLine(t, "write 1 "+word)
		noLine(t, "write $1+1 "+word)
	}
}

// P12.4, P12.5: Data of MaxData bytes is a line's, one more is not.
func TestDataLimit(t *testing.T) {
	row := numbers(8)
	for _, n := range []int{1, 65535, 65536} {
		data := row.bytes(n)
		wantsLine(t, fmt.Sprintf("write $1 %x", data), api.Call{Op: api.OpWrite, Ref: 1, Data: data})
	}
	for _, n := range []int{65537, 65538, 100000} {
		noLine(t, fmt.Sprintf("write $1 %x", row.bytes(n)))
	}
	noLine(t, fmt.Sprintf("write $1 %x0", row.bytes(65536)))
}

// P12.4: between two words stands one blank, and no other byte; none stands ahead of a line, or behind it.
func TestBlanks(t *testing.T) {
	for _, line := range []string{"malloc 1", "malloc 1 !", "calloc 1 2 !", "realloc $1+1 2 !", "free 0", "store 1 2", "write $1 00", "write 1 -", "trim", "stats"} {
		for i := range len(line) + 1 {
			for _, other := range []string{" ", "\t", "\r", "\v", "\f", "\x00", "\u00a0", "\u0085", "\u2003", "\u3000", "\x80", "\xff", "\xc2", "\xa0"} {
				noLine(t, line[:i]+other+line[i:])
				if i < len(line) && line[i] == ' ' {
					noLine(t, line[:i]+strings.Repeat(" ", 2)+line[i+1:])
					if other != " " {
						noLine(t, line[:i]+other+line[i+1:])
					}
				}
			}
			if i < len(line) && line[i] == ' ' {
				noLine(t, line[:i]+line[i+1:])
			}
		}
	}
	noLine(t, " ")
	noLine(t, "  ")
}

// P12.4: `!` stands once, behind a blank, behind the fields of a line that can be denied.
func TestDenyMarks(t *testing.T) {
	for _, line := range []string{"free 1", "usable $1", "load 1", "loadword 1", "store 1 2", "storeword $1+1 2", "read 1 2", "write 1 00", "write 1 -", "trim", "stats"} {
		noLine(t, line+" !")
		noLine(t, line+"!")
		noLine(t, "! "+line)
	}
	for _, line := range []string{"malloc 1", "calloc 1 2", "aligned 1 2", "realloc $1 2"} {
		for _, mark := range []string{"!", " !!", " ! !", " ! ", "  !", " ?", " -", " 1", " ！", " !1", " 1 !", " deny", " true"} {
			noLine(t, line+mark)
		}
		noLine(t, "! "+line)
		noLine(t, strings.Replace(line, " ", " ! ", 1))
		noLine(t, strings.Replace(line, " ", " !", 1))
	}
	for _, line := range []string{"malloc !", "calloc 1 !", "aligned 1 !", "realloc $1 !", "calloc !", "realloc !", "!", "free !", "write 1 !"} {
		noLine(t, line)
	}
}

// P12.4: a line has just the fields of its form, and begins with its word.
func TestFieldsAndWords(t *testing.T) {
	fields := []string{"", " 1", " 1 1", " 1 1 1", " 1 1 1 1", " 1 1 1 1 1", " $1", " $1 1", " 1 $1", " $1 $1", " $1 1 1", " 1 00", " 1 00 00", " 00 1", " 00", " -", " - -", " $1 -", " 1 - 1"}
	for _, op := range ops() {
		for _, rest := range fields {
			line := opWord(op) + rest
			if c, is := lineCall(line); is {
				wantsLine(t, line, c)
			} else {
				noLine(t, line)
			}
		}
		word := opWord(op)
		for _, other := range []string{strings.ToUpper(word), strings.ToUpper(word[:1]) + word[1:], word[1:], word[:len(word)-1] + "x", word + word, "x" + word, word + "x", word + ".", "\u200b" + word, word + "\u0301"} {
			for _, rest := range fields {
				noLine(t, other+rest)
			}
		}
	}
	for _, line := range []string{"x", "help", "1", "$1", "!", "#", "# trim", "0", "-", "mallo 1", "loadwor 1", "loadw 1", "heap 65536 2 1", "op 1", "null", "\x00", "\xff\xfe", "é", "ﬁ", "𝟙"} {
		noLine(t, line)
	}
}

// P12.5: a text is cut at each byte 10; the last line may be without it, if it has a byte; an empty line is none.
func TestLines(t *testing.T) {
	trim, stats := api.Call{Op: api.OpTrim}, api.Call{Op: api.OpStats}
	wantsParse(t, "", nil, 0, api.OK)
	wantsParse(t, "trim", []api.Call{trim}, 0, api.OK)
	wantsParse(t, "trim\n", []api.Call{trim}, 0, api.OK)
	wantsParse(t, "trim\nstats", []api.Call{trim, stats}, 0, api.OK)
	wantsParse(t, "trim\nstats\n", []api.Call{trim, stats}, 0, api.OK)
	noLine(t, "")
	for text, line := range map[string]int{
		"\n": 0, "\n\n": 0, "\ntrim": 0, "\ntrim\n": 0, "trim\n\n": 1, "trim\n\n\n": 1, "trim\n\ntrim": 1, "trim\nstats\n\n": 2, "trim\n ": 1, "trim\n \n": 1,
		"trim\r\nstats\r\n": 0, "trim\rstats": 0, "trim\nstats\r": 1, "trim\n\r": 1, "trim\n\r\n": 1, "trim\\nstats": 0, "trim\u2028stats": 0, "trim\u0085stats": 0, "trim\x00": 0,
		"trim\nx\ny\nz": 1, "trim\ntrim\ntrim\nx": 3, "trim\n\xff": 1, "trim\xff\ntrim": 0, "trim\n\xe2\nstats": 1, "trim\n\xf0\x9f\nstats": 1, "trim\nfree\xe2 1": 1,
	} {
		refusesParse(t, text, line, api.EFORM)
	}
}

// P12.5: of several lines that are none the first is told, wherever it is.
func TestFirstWrongLine(t *testing.T) {
	list := slices.Repeat([]string{"malloc 1", "free $1", "stats"}, 1366)[:4096]
	for _, at := range []int{0, 1, 2, 100, 2048, 4094, 4095} {
		for _, wrong := range []string{"", "x", "malloc", "malloc 01", "free $4097", "\xff"} {
			text := slices.Clone(list)
			text[at] = wrong
			refusesParse(t, strings.Join(text, "\n")+"\n", at, api.EFORM)
			if at < 4095 {
				text[4095] = wrong
				refusesParse(t, strings.Join(text, "\n")+"\n", at, api.EFORM)
			}
		}
	}
}

// P12.5: MaxCalls lines may be; of one more the number MaxCalls is told, whatever the lines are.
func TestLinesLimit(t *testing.T) {
	many := strings.Repeat("trim\n", 4095)
	want := slices.Repeat([]api.Call{{Op: api.OpTrim}}, 4096)
	wantsParse(t, many, want[1:], 0, api.OK)
	wantsParse(t, many+"trim", want, 0, api.OK)
	wantsParse(t, many+"trim\n", want, 0, api.OK)
	for _, rest := range []string{"trim\ntrim", "trim\ntrim\n", "trim\n\n", "trim\n ", "trim\nx", "trim\n\n\n\n", "\ntrim", "\n\n", "x\nx", many, many + many} {
		refusesParse(t, many+rest, 4096, api.ELIMIT)
		refusesParse(t, "\n"+many+rest, 4096, api.ELIMIT)
		refusesParse(t, "x\n"+many+rest, 4096, api.ELIMIT)
	}
	refusesParse(t, many+"\n", 4095, api.EFORM)
	refusesParse(t, many+"x", 4095, api.EFORM)
	refusesParse(t, strings.Repeat("\n", 4096), 0, api.EFORM)
	refusesParse(t, strings.Repeat("\n", 4097), 4096, api.ELIMIT)
	refusesParse(t, strings.Repeat("\n", 1<<20), 4096, api.ELIMIT)
}

// long tells calls whose text has so many bytes, at least 900000.
func long(t *testing.T, count int, row *numbers) []api.Call {
	t.Helper()
	var calls []api.Call
	rest := count
	for rest > 140000 {
		calls = append(calls, api.Call{Op: api.OpWrite, P: 1, Data: row.bytes(65536)})
		rest -= len("write 1 ") + 2*65536 + 1
	}
	c := api.Call{Op: api.OpWrite, P: 1}
	if rest%2 == 0 {
		c.P = 10
	}
	c.Data = row.bytes((rest - len(fmt.Sprintf("write %d \n", c.P))) / 2)
	return append(calls, c)
}

// P12.5: a text of MaxText bytes may be, with its last byte 10 and without; of one more the number 0 is told, whatever the text is.
func TestTextLimit(t *testing.T) {
	row := numbers(9)
	for _, count := range []int{1<<20 - 1, 1 << 20} {
		calls := long(t, count, &row)
		text := printed(t, calls)
		if len(text) != count {
			t.Fatalf("%d bytes, not %d", len(text), count)
		}
		wantsParse(t, text, calls, 0, api.OK)
		wantsParse(t, text[:count-1], calls, 0, api.OK)
		refusesParse(t, text+"00", 0, api.ELIMIT)
	}
	calls := long(t, 1<<20+1, &row)
	text, _ := callsText(calls[:len(calls)-1])
	text += strings.TrimSuffix(callLine(calls[len(calls)-1]), "\n")
	if len(text) != 1<<20 {
		t.Fatalf("%d bytes", len(text))
	}
	wantsParse(t, text, calls, 0, api.OK)
	for _, rest := range []string{"\n", "0", "00", " ", "\xff", "\ntrim\n", text} {
		refusesParse(t, text+rest, 0, api.ELIMIT)
	}
	for _, part := range []string{"\n", "x", " ", "trim\n", "\x00", "\xff", "é", "malloc 1 "} {
		refusesParse(t, strings.Repeat(part, 1<<20+1)[:1<<20+1], 0, api.ELIMIT)
	}
	for _, part := range []string{"x", " ", "1", "0", "$", "!", "\x00", "\xff"} {
		refusesParse(t, "malloc "+strings.Repeat(part, 1<<20-7), 0, api.EFORM)
		refusesParse(t, "trim\nfree $"+strings.Repeat(part, 1<<20-11), 1, api.EFORM)
		refusesParse(t, "trim\nfree $1+"+strings.Repeat(part, 1<<20-13), 1, api.EFORM)
		refusesParse(t, "write 1 "+strings.Repeat(part, 1<<20-8), 0, api.EFORM)
		refusesParse(t, strings.Repeat(part, 1<<20), 0, api.EFORM)
	}
}

// wantsModel asks for what the model of P12.5 tells of a text.
func wantsModel(t *testing.T, text string) api.Errno {
	t.Helper()
	calls, line, e := textCalls(text)
	wantsParse(t, text, calls, line, e)
	return e
}

// P12.4, P12.5: all short texts of bytes that matter, behind each beginning.
func TestShortLines(t *testing.T) {
	const bytes = "019$+-!f \nA\r\xc3"
	found := 0
	var try func(text string, left int)
	try = func(text string, left int) {
		if wantsModel(t, text) == api.OK {
			found++
		}
		for i := 0; i < len(bytes) && left > 0; i++ {
			try(text+bytes[i:i+1], left-1)
		}
	}
	for _, first := range []string{"malloc ", "calloc 1 ", "realloc ", "realloc $1 ", "free ", "free $", "store ", "write 1 ", "write ", "trim", "\ntrim", "stats\n"} {
		try(first, 4)
	}
	if found < 1000 {
		t.Errorf("%d texts had calls", found)
	}
}

// spoiltText changes some bytes of a text.
func spoiltText(text string, row *numbers) string {
	const marks = "0123456789abcdef$+-! \n\t\r\x00\x80\xff"
	b := []byte(text)
	for range 1 + row.below(2) {
		i := row.below(len(b) + 1)
		switch kind := row.below(5); {
		case kind == 0:
			b = slices.Insert(b, i, marks[row.below(len(marks))])
		case i == len(b):
		case kind == 1:
			b = slices.Delete(b, i, i+1)
		case kind == 2:
			b[i] = marks[row.below(len(marks))]
		case kind == 3:
			b[i] ^= 1 << row.below(8)
		case kind == 4:
			j := row.below(len(b))
			b[i], b[j] = b[j], b[i]
		}
	}
	return string(b)
}

// P12.4, P12.5, R1: texts of some lines, of which some bytes were changed.
func TestSpoiltTexts(t *testing.T) {
	met := map[api.Errno]int{}
	for seed := range 20000 {
		row := numbers(seed)
		var text strings.Builder
		for range 1 + row.below(4) {
			text.WriteString(callLine(tellable(&row)))
		}
		met[wantsModel(t, spoiltText(text.String(), &row))]++
	}
	if met[api.OK] < 1000 || met[api.EFORM] < 1000 {
		t.Errorf("met %v", met)
	}
}

// R1: any bytes at all.
func TestAnyBytes(t *testing.T) {
	for seed := range 3000 {
		row := numbers(seed)
		b := row.bytes(row.below(60))
		wantsModel(t, string(b))
		wantsModel(t, "malloc "+string(b))
		wantsModel(t, "write 1 "+string(bytes.ToValidUTF8(b, []byte("f"))))
	}
}
