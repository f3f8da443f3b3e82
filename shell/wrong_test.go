package shell_test

import (
	"fmt"
	"slices"
	"strings"
	"testing"

	"croft/api"
	"croft/shell"
)

// asBook asks that a text says what a book of it says: the book has no form but the tables'.
func asBook(t *testing.T, text string) {
	t.Helper()
	b := newBook()
	list := strings.Split(text, "\n")
	for _, line := range list {
		b.line(line)
	}
	if got, e := shell.Run(text); e != api.OK || got != b.said.String() {
		t.Fatalf("%.300q: %v, %.300q, not %.300q", text, e, got, b.said.String())
	}
}

// R1: any bytes at all.
func TestAnyBytes(t *testing.T) {
	for seed := range 5000 {
		row := numbers(seed)
		text := string(row.bytes(row.below(200)))
		asBook(t, text)
		asBook(t, lines(all)+"\n"+text)
	}
}

// R1: any words of the tables, in any order.
func TestAnyWords(t *testing.T) {
	words := []string{"!", "-", "0", "1", "2", "16", "4096", "65536", "81920", "18446744073709551615", "9223372036854775808", "$1", "$2+8", "$3", "61", "6162", "i", "t", "a", "o", "r", "new", "", "\n", "\n"}
	for _, r := range rows() {
		words = append(words, r.word)
	}
	for seed := range 5000 {
		row := numbers(seed)
		text := ""
		for range row.below(60) {
			text += oneOf(&row, words...) + oneOf(&row, " ", " ", " ", "\n")
		}
		asBook(t, lines(all)+"\n"+text)
	}
}

// R1: lines with fields drawn at random, wherever they lead.
func TestAnyFields(t *testing.T) {
	for seed := range 1500 {
		row := numbers(seed)
		list := []string{lines(all)}
		for range 60 {
			r := oneOf(&row, rows()...)
			if r.need == "-" && row.below(10) > 0 {
				continue
			}
			words := r.words()
			for i, field := range r.fields {
				switch field {
				case "NAME":
					words[i+1] = oneOf(&row, words[i+1], words[i+1], "i", "t", "a", "o", "r")
				case "N":
					words[i+1] = fmt.Sprint(oneOf(&row, 0, 1, 2, 3, 8, 16, 64, uint64(row.below(9000)), 65536, row.word(), 1<<63, 1<<64-1))
				case "ADDRESS":
					words[i+1] = oneOf(&row, "$1", "$2", "$3", "$9", "81920", "86016", fmt.Sprint(65536+64*row.below(600)), fmt.Sprint(65536+row.below(40000)), fmt.Sprintf("$%d+%d", 1+row.below(9), 1+row.below(9000)))
				case "HEX":
					words[i+1] = hexWord(row.bytes(row.below(30)))
				}
			}
			if r.deny && row.below(3) == 0 {
				words = append(words, "!")
			}
			list = append(list, strings.Join(words, " "))
		}
		asBook(t, strings.Join(list, "\n"))
	}
}

// R1: texts of which some bytes were changed.
func TestSpoiltTexts(t *testing.T) {
	const marks = "0123456789abcdef$+-!# \n\t\r\x00\x80\xff"
	for seed := range 400 {
		row := numbers(seed)
		b := []byte(strings.Join(someText(&row, 80), "\n"))
		for range 1 + row.below(20) {
			i := row.below(len(b))
			switch row.below(4) {
			case 0:
				b = slices.Insert(b, i, marks[row.below(len(marks))])
			case 1:
				b = slices.Delete(b, i, i+1)
			case 2:
				b[i] = marks[row.below(len(marks))]
			case 3:
				b[i] ^= 1 << row.below(8)
			}
		}
		asBook(t, string(b))
	}
}

// R1, R6: blocks of tables, arenas and objects are freed by lines past them, and written over: all lines behind say something, and the same each time.
func TestPastOwners(t *testing.T) {
	for seed := range 200 {
		row := numbers(seed)
		list := []string{"heap 65536 8 2", "table t", "arena a 100", "objects o", "table u"}
		for i := range 40 {
			list = append(list, fmt.Sprintf("set t %02x %s", i, hexWord(row.bytes(row.below(90)))), "take a 50 1", fmt.Sprintf("make o %d %d", row.below(4), row.below(60)), "mark a")
		}
		objects := said(t, strings.Join(list, "|")+"|live")[len(list):]
		for range 250 {
			var p, size int
			fmt.Sscanf(oneOf(&row, objects...), "%d %d", &p, &size)
			switch row.below(16) {
			case 0, 1:
				list = append(list, fmt.Sprintf("free %d", p))
			case 2, 3:
				list = append(list, fmt.Sprintf("storeword %d %d", p+8*row.below(size/8), oneOf(&row, 0, uint64(p), row.word(), 65536)))
			case 4:
				list = append(list, fmt.Sprintf("malloc %d", size))
			case 5, 6:
				list = append(list, fmt.Sprintf("set %s %02x %s", oneOf(&row, "t", "u"), row.below(50), hexWord(row.bytes(row.below(90)))))
			case 7:
				list = append(list, fmt.Sprintf("%s t %02x", oneOf(&row, "get", "del"), row.below(50)))
			case 8:
				list = append(list, "keys t")
			case 9:
				list = append(list, fmt.Sprintf("put o %d %d %d", p, row.below(4), p), fmt.Sprintf("word o %d 0", p), fmt.Sprintf("root o r %d", p))
			case 10:
				list = append(list, "collect o")
			case 11:
				list = append(list, "take a 200 8", fmt.Sprintf("release a %d", row.below(40)))
			case 12:
				list = append(list, "live", "stats", "pages")
			case 13:
				list = append(list, fmt.Sprintf("make o %d %d", row.below(4), row.below(60)))
			case 14:
				list = append(list, fmt.Sprintf("realloc %d %d", p, 16<<row.below(8)))
			case 15:
				list = append(list, "save i", "check i")
			}
		}
		list = append(list, "drop t", "drop a", "drop o", "drop u", "live", "stats", "trim")
		text := strings.Join(list[:min(len(list), 1000)], "|")
		asBook(t, lines(text))
		if !slices.Equal(said(t, text), said(t, text)) {
			t.Fatalf("seed %d: two runs say two things", seed)
		}
	}
}

// R1: texts that do much with great heaps and vaults end.
func TestHeavyTexts(t *testing.T) {
	const big = "heap 1048576 4 8|malloc 1048576|malloc 1048576|malloc 1048576|malloc 1048576"
	for _, text := range []string{
		big + strings.Repeat("|save a|restore a", 400),
		big + "|save a" + strings.Repeat("|check a", 900),
		big + strings.Repeat("|pages", 900),
		big + strings.Repeat("|waste 16", 900),
		"heap 65536 64 4" + strings.Repeat("|malloc 16|malloc 4096", 300) + strings.Repeat("|stuck 16|freelists", 150),
		"vault 1048576 4 8" + strings.Repeat("|vmalloc 1048576", 4) + strings.Repeat("|compact", 300),
		"vault 65536 64 4" + strings.Repeat("|vmalloc 16|vmalloc 4096", 200) + strings.Repeat("|compact|vfree 2|vmalloc 65536 !", 100),
		"heap 1048576 4 8|table t" + strings.Repeat("|set t 61 62|keys t|del t 61", 300),
		"heap 65536 64 4|arena a 1" + strings.Repeat("|mark a|take a 1 65536", 64) + strings.Repeat("|take a 1 1|mark a", 400),
		strings.Repeat(" ", 1<<20),
		strings.Repeat("x ", 1<<19),
		"vault 1048576 4 8|vmalloc 1048576|" + "vwrite 1 0 " + strings.Repeat("5a", 1<<18) + strings.Repeat("|vread 1 0 1048576", 30),
	} {
		said(t, text)
	}
}
