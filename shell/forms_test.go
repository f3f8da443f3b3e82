package shell_test

import (
	"fmt"
	"slices"
	"strings"
	"testing"
)

// notOfForm asks that each of these lines says error 7, where all is there and where nothing is, and changes nothing.
func notOfForm(t *testing.T, list []string) {
	t.Helper()
	for part := range slices.Chunk(list, 900) {
		text := strings.Join(part, "\n")
		wants := strings.Repeat("error 7\n", len(part))
		if got := run(t, text); got != wants {
			t.Fatalf("where nothing is: %s", firstOther(part, got))
		}
		first := run(t, lines(all))
		got := run(t, lines(all)+"\n"+text+"\n"+lines(look))
		if got == first+wants+strings.TrimPrefix(run(t, lines(join(all, look))), first) {
			continue
		}
		t.Fatalf("behind all: %s", firstOther(part, strings.TrimPrefix(got, first)))
	}
}

// firstOther tells the first line that does not say error 7.
func firstOther(list []string, got string) string {
	said := strings.Split(got, "\n")
	for i, line := range list {
		if i >= len(said) || said[i] != "error 7" {
			return fmt.Sprintf("%.60q: %.100q", line, said[min(i, len(said)-1)])
		}
	}
	return "something was changed"
}

// hasForm asks that a line's form is seen where nothing is: then it says no error 7.
func hasForm(t *testing.T, line string) {
	t.Helper()
	for _, got := range said(t, line) {
		if got == "error 7" {
			t.Errorf("%.60q: error 7", line)
		}
	}
}

// P21.3: the lines of the tables have a form, with `!` just where it may stand.
func TestForms(t *testing.T) {
	for _, r := range rows() {
		hasForm(t, r.line())
		if r.deny {
			hasForm(t, r.line()+" !")
			notOfForm(t, []string{r.line() + " ! !", r.line() + " !!", r.line() + "!", r.line() + " 1 !", r.line() + " ! 1", r.line() + " -"})
		} else {
			notOfForm(t, []string{r.line() + " !", r.line() + " ! !", r.line() + "!"})
		}
	}
	if n := len(rows()); n != 14+39 {
		t.Errorf("%d rows", n)
	}
}

// P21.3: a word less, a word more, words in another order.
func TestWords(t *testing.T) {
	for _, r := range rows() {
		words := r.words()
		var list []string
		for i := range words {
			list = append(list, strings.Join(slices.Delete(slices.Clone(words), i, i+1), " "))
			for _, more := range []string{"", "1", "$1", "t", "61", "-", "!", "new", words[i]} {
				list = append(list, strings.Join(slices.Insert(slices.Clone(words), i, more), " "))
				list = append(list, strings.Join(append(slices.Clone(words), more), " "))
			}
			for j := range i {
				other := slices.Clone(words)
				other[i], other[j] = other[j], other[i]
				list = append(list, strings.Join(other, " "))
			}
		}
		list = slices.DeleteFunc(list, isLine)
		if len(list) < 10 {
			t.Errorf("%s: %q", r.word, list)
		}
		notOfForm(t, list)
	}
}

// P21.3: a line begins with its word, in small letters.
func TestFirstWords(t *testing.T) {
	var list []string
	for _, r := range rows() {
		for _, word := range []string{strings.ToUpper(r.word), strings.ToUpper(r.word[:1]) + r.word[1:], r.word[1:], r.word[:len(r.word)-1], r.word + "x", "x" + r.word, r.word + r.word, r.word + ":", "\ufeff" + r.word, r.word + "\u0301"} {
			line := strings.Join(append([]string{word}, r.words()[1:]...), " ")
			if !isLine(line) {
				list = append(list, line)
			}
		}
	}
	list = append(list, "x", "help", "reset a", "alloc a 1 1", "free", "final o 1", "weak o 1", "deref o 1", "objects", "len t", "used a", "held a", "chunks a", "vsize 1", "handles", "image i", "diff", "bytes i", "lay", "trace o", "dict t",
		"vtrim", "vlive", "quota", "cache", "count c", "name t", "all t", "-", "!", "$1", "1", "NAME", "\x00", "\xff", "vmalloc", "sizes i", "pages i")
	notOfForm(t, list)
}

// withField tells a row's lines, each field of a kind in turn with that word.
func withField(r row, kind, word string) []string {
	var list []string
	for i, field := range r.fields {
		if field == kind {
			words := r.words()
			words[i+1] = word
			list = append(list, strings.Join(words, " "))
		}
	}
	return list
}

// wrong makes lines of all rows, each field of a kind in turn with each of these words.
func wrong(kind string, words []string) []string {
	var list []string
	for _, r := range rows() {
		for _, word := range words {
			list = append(list, withField(r, kind, word)...)
		}
	}
	return list
}

// P21.2: a name has one to sixteen letters, a to z.
func TestNameForms(t *testing.T) {
	for c := 'a'; c <= 'z'; c++ {
		ends(t, all+"|clear|save "+string(c)+"|names", string(c)+" image")
		ends(t, all+"|clear|save a"+string(c)+"b|names", "a"+string(c)+"b image")
	}
	for n := range 30 {
		name := strings.Repeat("n", n)
		if n >= 1 && n <= 16 {
			ends(t, all+"|clear|save "+name+"|names", name+" image")
		}
	}
	words := []string{"", "A", "Z", "aB", "Ba", "1", "a1", "1a", "0", "a-", "-", "--", "a_b", "_", "$1", "$a", "!", "a!", "a.", "a,b", "é", "aé", "ａ", "ß", "ı", "ſ", "a\x00", "\x00", "a\t", "\xff", "a\xff", "a\u0301", "`", "{", "@", "[",
		strings.Repeat("n", 17), strings.Repeat("n", 18), strings.Repeat("a", 1000), strings.Repeat("a", 16) + "A", strings.Repeat("é", 8)}
	notOfForm(t, wrong("NAME", words))
	for b := range 256 {
		if c := string([]byte{byte(b)}); c != " " && c != "\n" && (b < 'a' || b > 'z') {
			notOfForm(t, []string{"save " + c, "save a" + c, "save " + c + "a", "unroot o " + c, "root o a" + c + "a $1"})
		}
	}
}

// noNumbers are words that are no number as chapter 12 has it.
func noNumbers() []string {
	return []string{"", "00", "01", "007", "0000", "18446744073709551616", "18446744073709551617", "28446744073709551615", "99999999999999999999", "100000000000000000000", "018446744073709551615",
		"+1", "-1", "-0", "+", "-", "1.0", "1.", "1e3", "0x1", "0b1", "1_0", "a", "f", "1a", "a1", "!", "1!", "1,", "1\t", "\t1", "1\r", "\x00", "1\x00", "１", "٣", "²", "1\u00a0", "\xff", "1\xff",
		strings.Repeat("1", 21), strings.Repeat("9", 400), strings.Repeat("0", 400)}
}

// P21.2: N is a number as in chapter 12, in each line that takes one.
func TestNumberForms(t *testing.T) {
	notOfForm(t, wrong("N", append(noNumbers(), "$1", "$1+1", "new")))
	for _, r := range rows() {
		for _, word := range []string{"0", "1", "9", "10", "99", "4096", "4097", "9223372036854775807", "9223372036854775808", "18446744073709551615"} {
			for _, line := range withField(r, "N", word) {
				hasForm(t, line)
			}
		}
	}
}

// P21.2: an ADDRESS is as in chapter 12, in each line that takes one.
func TestAddressForms(t *testing.T) {
	words := slices.DeleteFunc(noNumbers(), func(word string) bool { return word == "" })
	for _, word := range noNumbers() {
		words = append(words, "$"+word, "$1+"+word)
	}
	words = append(words, "", "$", "$0", "$4097", "$4098", "$5000", "$40960", "$18446744073709551615", "$1+", "$+1", "$1+0", "$0+1", "$4097+1", "$1++1", "$1+1+1", "$1-1", "$$1", "1$", "1+1", "$1+$1", "$a", "t", "＄1", "$1 +1")
	notOfForm(t, wrong("ADDRESS", words))
	for _, r := range rows() {
		for _, word := range []string{"0", "1", "18446744073709551615", "$1", "$9", "$4095", "$4096", "$1+1", "$4096+18446744073709551615"} {
			for _, line := range withField(r, "ADDRESS", word) {
				hasForm(t, line)
			}
		}
	}
}

// P21.2: HEX is as in chapter 12, in each line that takes one: two digits a byte, of 0 to 9 and a to f; `-` for none.
func TestHexForms(t *testing.T) {
	words := []string{"", "0", "000", "abc", "--", "---", "-0", "-00", "00-", "0-", "0A", "A0", "FF", "fF", "0x00", "0g", "g0", "é0", "0é", "ﬀ", "$1", "!", "0!", "00\t", "\x00\x00", "\xff\xff", "+0", "0+", "_0", "0_", " 0", strings.Repeat("0", 399)}
	notOfForm(t, wrong("HEX", words))
	for _, line := range wrong("HEX", []string{strings.Repeat("0", 131073), strings.Repeat("00", 65536) + "-", strings.Repeat("00", 100000) + "fF"}) {
		notOfForm(t, []string{line})
	}
	for b := range 256 {
		text := fmt.Sprintf("%02x", b)
		wants(t, "vault 65536 1 0|vmalloc 16|vwrite 1 2 "+text+"|vread 1 2 1", "ok|1|ok|"+text)
		wants(t, "heap 65536 1 0|table t|set t "+text+" ff"+text+"|keys t|get t "+text, "ok|ok|ok|"+text+" ff"+text+"|ff"+text)
		if c := string([]byte{byte(b)}); !strings.Contains("0123456789abcdef \n", c) {
			notOfForm(t, []string{"vwrite 1 0 0" + c, "vwrite 1 0 " + c + "0", "set t 00 0" + c, "set t " + c + "0 00", "get t ff" + c + "f", "write $1 " + c + c})
		}
	}
	for _, r := range rows() {
		for _, word := range []string{"-", "00", "0a0b", "ff", "0123456789abcdef", strings.Repeat("5a", 65536), strings.Repeat("5a", 65537), strings.Repeat("5a", 200000)} {
			for _, line := range withField(r, "HEX", word) {
				hasForm(t, line)
			}
		}
	}
}
