package shell_test

import (
	"fmt"
	"slices"
	"strings"
	"testing"
)

// P21.3: a line that has its form, and needs what is not there, says error 9, and changes nothing.
func TestNothingThere(t *testing.T) {
	for _, r := range rows() {
		for _, line := range []string{r.line(), r.line() + map[bool]string{true: " !"}[r.deny]} {
			switch r.word {
			case "heap", "vault":
				wants(t, line, "error 1")
			case "names":
				wants(t, line, "")
			case "clear":
				wants(t, line, "ok")
			default:
				wants(t, line, "error 9")
				wants(t, line+"|names|"+line+"|clear|"+line, "error 9|error 9|ok|error 9")
			}
		}
	}
}

// P21.3: a heap is no vault, and a vault no heap.
func TestHeapAndVault(t *testing.T) {
	const heap, vault = "heap 65536 8 2|malloc 100", "vault 65536 8 2|vmalloc 100"
	for _, r := range rows() {
		switch r.need {
		case "-":
		case "heap":
			refuses(t, vault, r.line(), "vstats|names", "error 9")
			if got := said(t, heap+"|"+r.line()); slices.Contains(got, "error 9") {
				t.Errorf("%s: %q", r.line(), got)
			}
		case "vault":
			refuses(t, heap, r.line(), "live|stats|usable $1|malloc 1", "error 9")
			if got := said(t, vault+"|pin 1|"+r.line()); slices.Contains(got, "error 9") && r.word != "vfree" {
				t.Errorf("%s: %q", r.line(), got)
			}
		default:
			refuses(t, heap, r.line(), "live|stats|usable $1|names", "error 9")
			refuses(t, vault, r.line(), "vstats|names", "error 9")
		}
	}
}

// P21.3: a name that stands for something of another kind, or for nothing, says error 9; so does one that stands for nothing any more.
func TestOtherKinds(t *testing.T) {
	for _, r := range rows() {
		switch r.need {
		case "-", "heap", "vault":
			continue
		}
		words := r.words()
		for _, kind := range []string{"image", "table", "arena", "objects", ""} {
			if kind == r.need || kind != "" && r.need == "name" {
				continue
			}
			words[1] = nameOf(kind)
			line := strings.Join(words, " ")
			refuses(t, all, line, look, "error 9")
			if r.deny {
				refuses(t, all, line+" !", look, "error 9")
			}
		}
		refuses(t, all+"|clear", r.line(), "names|live|vstats", "error 9")
		refuses(t, all+"|heap 65536 8 2", r.line(), "names|live|vstats", "error 9")
		refuses(t, all+"|drop "+r.words()[1], r.line(), "names|live|vstats", "error 9")
		if r.need != "image" && r.need != "name" {
			refuses(t, all+"|restore i", r.line(), "names|live|vstats", "error 9")
		}
	}
}

// P21.3: a line of the right kind of name is not refused so.
func TestRightKinds(t *testing.T) {
	for _, r := range rows() {
		first := said(t, all)
		for _, got := range said(t, all+"|"+r.line())[len(first):] {
			if got == "error 9" && r.word != "unpin" && r.word != "release" {
				t.Errorf("%s: %s", r.line(), got)
			}
		}
	}
}

// P21.5: an ADDRESS whose `$` is beyond the answers says error 1, behind a form that is none, a heap that is not there, and a name of another kind.
func TestBeyondAnswers(t *testing.T) {
	const stores = all + "|root o r 81920"
	for _, r := range rows() {
		if !slices.Contains(r.fields, "ADDRESS") {
			continue
		}
		for _, far := range []string{"", "+1", "+18446744073709551615"} {
			for _, ref := range []string{"$3", "$4", "$1000", "$4096"} {
				for _, line := range withField(r, "ADDRESS", ref+far) {
					wants(t, line, "error 9")
					refuses(t, "vault 65536 1 1", line, "vstats", "error 9")
					if r.need == "objects" {
						refuses(t, stores, line, look, "error 1")
						refuses(t, stores, strings.Replace(line, " o ", " t ", 1), look, "error 9")
						refuses(t, stores, strings.Replace(line, " o ", " a ", 1), look, "error 9")
						refuses(t, stores, strings.Replace(line, " o ", " x ", 1), look, "error 9")
						refuses(t, stores, line+" ", look, "error 7")
						refuses(t, stores, strings.Replace(line, " o ", " O ", 1), look, "error 7")
					} else {
						ends(t, stores+"|"+line, "error 1")
						wants(t, "heap 65536 1 0|"+line+"|live|stats", "ok|error 1|ok 0 0 0 0")
					}
				}
			}
		}
	}
	// the first of the two that put takes, and the second, and both
	refuses(t, stores, "put o $3 0 0", look, "error 1")
	refuses(t, stores, "put o 81920 0 $3", look, "error 1")
	refuses(t, stores, "put o $3 0 $3", look, "error 1")
	refuses(t, stores, "put o $2 0 0", look, "error 1") // that block is no object
}

// P21.5: an ADDRESS is what the answer tells, and the number behind it, modulo 2^64; of an error's answer, and of one that tells nothing, 0 and that number.
func TestAddresses(t *testing.T) {
	const ahead = "heap 65536 2 1|malloc 8192|objects o|make o 4 0|make o 3 0|malloc 8193|stats|store $1 7"
	wants(t, ahead+"|put o $1+8192 0 $1+8224|word o $1+8192 0|put o $1+8192 1 73728|word o 73728 1|word o $1+8191 0",
		"ok|ok 65536|ok|73728|73760|error 3|ok 16384 8256 3 1|ok|ok|73760|ok|73728|error 1")
	for _, ref := range []string{"$2", "$3", "$4"} { // they tell 0
		ends(t, ahead+"|put o "+ref+"+73728 0 73728|word o 73728 0", "73728")
		ends(t, ahead+"|put o 73728 0 73728|put o 73728 0 "+ref+"|word o 73728 0", "0")
		ends(t, ahead+"|root o r "+ref, "error 1")
		ends(t, ahead+"|root o r "+ref+"+73728", "ok")
	}
	ends(t, ahead+"|root o r $1+18446744073709551615", "error 1")
	ends(t, "heap 65536 2 1|malloc 8192|malloc 8192|objects o|free $1|make o 1 0|root o r $2+18446744073709543424", "ok")
	ends(t, "heap 65536 2 1|malloc 8192|malloc 8192|objects o|free $1|make o 1 0|word o $2+18446744073709543424 0", "0")
}

// R2, P21.3: of several errors the first is told: the form's, then what is not there, then an address, then what the call answers.
func TestOrder(t *testing.T) {
	for text, want := range map[string]string{
		"put o $9 0 01": "error 7", "put x $9 0 1": "error 9", "put o $9 9 1": "error 1", "make o 1 99999999 !": "error 3", "make o 9223372036854775808 1": "error 3",
		"take a 99999999 3": "error 1", "take a 99999999 1": "error 3", "take t 99999999 3": "error 9", "take a 99999999 03": "error 7",
		"set t 61 " + strings.Repeat("00", 65537): "error 6", "set a 61 " + strings.Repeat("00", 65537): "error 9", "set t 61 " + strings.Repeat("0", 131075): "error 7",
		"arena n 0": "error 1", "arena N 0": "error 7", "vwrite 9 99 00": "error 1", "vwrite 1 99999 0": "error 7", "vfree 2": "error 9", "vfree 3": "error 1", "vfree 03": "error 7",
		"release a 1": "error 9", "release t 1": "error 9", "release a 01": "error 7", "root o r 1": "error 1", "root a r 1": "error 9", "root o R 1": "error 7",
		"read $9 65537": "error 1", "read $1 65537": "error 6", "read 0 65537": "error 6", "write $9 " + strings.Repeat("00", 65537): "error 1", "write 0 " + strings.Repeat("00", 65537): "error 6",
		"aligned 3 99999999": "error 1", "calloc 4294967296 4294967296": "error 3", "realloc 1 99999999": "error 1", "realloc $1 99999999": "error 3",
	} {
		ends(t, all+"|"+text, want)
	}
}

// P21.5: a number that a call takes as an int is 2^63 - 1, where it is above that.
func TestInts(t *testing.T) {
	for _, n := range []string{"9223372036854775806", "9223372036854775807", "9223372036854775808", "9223372036854775809", "13835058055282163713", "18446744073709551615"} {
		for line, want := range map[string]string{
			"heap 65536 %s 1": "error 1", "heap 65536 1 %s": "error 1", "vault 65536 %s 1": "error 1", "vault 65536 1 %s": "error 1", "heap %s 1 1": "error 1",
			"make o %s 0": "error 3", "make o 0 %s": "error 3", "make o %s %[1]s": "error 3", "put o 81920 %s 0": "error 1", "word o 81920 %s": "error 1", "release a %s": "error 9",
			"vfree %s": "error 1", "pin %s": "error 1", "unpin %s": "error 1", "vwrite %s 0 -": "error 1", "vread %s 0 0": "error 1",
			// what is no int is as it is
			"vwrite 1 %s -": "error 4", "vread 1 0 %s": "error 4", "vread 1 %s 2": "error 4", "vmalloc %s": "error 3", "arena n %s": "error 3", "take a %s 1": "error 3", "take a 1 %s": "", "waste %s": "-1", "stuck %s": "no", "nofit %s": "no", "malloc %s": "error 3",
		} {
			switch {
			case want == "" && n == "9223372036854775808":
				want = "error 3"
			case want == "":
				want = "error 1"
			}
			refuses(t, all, fmt.Sprintf(line, n), "live|names|vstats|keys t|word o 81920 1", want)
		}
	}
}
