package shell_test

import (
	"fmt"
	"maps"
	"slices"
	"strings"
	"testing"
)

// pen draws lines, by what a book knows of those ahead, so that most of them ask for what is there.
type pen struct {
	*numbers
	book  *book
	lines []string
}

// someText draws so many lines.
func someText(row *numbers, count int) []string {
	p := &pen{numbers: row, book: newBook()}
	p.write("heap 65536 %d %d", 1+row.below(6), row.below(5))
	p.write("vault 1048576 %d %d", 1+row.below(4), row.below(4))
	for len(p.lines) < count {
		p.draw()
	}
	return p.lines
}

// write puts a line into the text, and into the book.
func (p *pen) write(format string, parts ...any) {
	line := fmt.Sprintf(format, parts...)
	p.book.line(line)
	p.lines = append(p.lines, line)
}

// size draws one for a request.
func (p *pen) size() uint64 {
	r := uint64(8) << p.below(12)
	return oneOf(p.numbers, r, r, r+1, uint64(p.below(300)), uint64(p.below(20000)))
}

// named tells the names of a kind.
func (p *pen) named(kind string) []string {
	all := slices.Sorted(maps.Keys(p.book.names))
	return slices.DeleteFunc(all, func(name string) bool { return p.book.names[name] != kind })
}

// name draws one that stands for a thing of a kind, where there is one; else another.
func (p *pen) name(kind string) string {
	list := p.named(kind)
	if len(list) == 0 || p.below(30) == 0 {
		return p.anyName()
	}
	return oneOf(p.numbers, list...)
}

// news says whether a thing of a kind is to be made: where there is none, and seldom else.
func (p *pen) news(kind string) bool {
	return p.below(20) == 0 || len(p.named(kind)) == 0 && p.below(4) > 0
}

func (p *pen) anyName() string {
	return oneOf(p.numbers, "a", "b", "c", "z", "ab", "zz", "table", "qwertyuiopasdfgh")
}

// address draws one as it is written: of an answer, or of a live block, or another.
func (p *pen) address() string {
	b := p.book
	switch kind := p.below(20); {
	case kind < 9 && len(b.answers) > 0:
		return fmt.Sprintf("$%d", 1+p.below(len(b.answers)))
	case kind < 12 && len(b.answers) > 0:
		return fmt.Sprintf("$%d+%d", 1+p.below(len(b.answers)), 1+p.below(40))
	case kind < 13:
		return fmt.Sprintf("$%d", len(b.answers)+1+p.below(3))
	case kind < 19 && b.heap != nil && len(b.heap.Live()) > 0:
		return fmt.Sprint(oneOf(p.numbers, b.heap.Live()...).P + uint64(p.below(2)*p.below(20)))
	}
	return fmt.Sprint(oneOf(p.numbers, 0, 65536, 69632, p.word()))
}

// object draws an object of a store, for the most part.
func (p *pen) object(name string) string {
	if one := p.book.stores[name]; one != nil && p.below(10) > 0 {
		if list := one.Objects(); len(list) > 0 {
			return fmt.Sprint(oneOf(p.numbers, list...))
		}
	}
	return p.address()
}

func (p *pen) key() string { return oneOf(p.numbers, "-", "61", "62", "6162", "00", "ff00", "7a7a7a") }

func (p *pen) data() string {
	return hexWord(p.numbers.bytes(oneOf(p.numbers, 0, 1, 2, 16, p.below(200), p.below(5000))))
}

func (p *pen) deny() string { return oneOf(p.numbers, "", "", " !") }

func (p *pen) handle() int {
	if v := p.book.vault; v != nil && p.below(10) > 0 {
		if list := v.Handles(); len(list) > 0 {
			return oneOf(p.numbers, list...)
		}
	}
	return p.below(20)
}

// draw writes a line.
func (p *pen) draw() {
	switch kind := p.below(100); {
	case kind < 28:
		p.call()
	case kind < 42:
		p.ask()
	case kind < 55:
		p.onTable()
	case kind < 66:
		p.onArena()
	case kind < 80:
		p.onStore()
	case kind < 94:
		p.onVault()
	case kind < 97:
		p.odd()
	default:
		p.begin()
	}
}

func (p *pen) call() {
	switch p.below(16) {
	case 0, 1, 2:
		p.write("malloc %d%s", p.size(), p.deny())
	case 3:
		p.write("calloc %d %d%s", oneOf(p.numbers, 1, 1, 3, p.word()), p.size(), p.deny())
	case 4:
		p.write("aligned %d %d%s", oneOf(p.numbers, 1, 16, 64, 8192, 3), p.size(), p.deny())
	case 5, 6:
		p.write("realloc %s %d%s", p.address(), p.size(), p.deny())
	case 7, 8:
		p.write("free %s", p.address())
	case 9:
		p.write("usable %s", p.address())
	case 10:
		p.write("%s %s", oneOf(p.numbers, "load", "loadword"), p.address())
	case 11:
		p.write("%s %s %d", oneOf(p.numbers, "store", "storeword"), p.address(), p.word())
	case 12:
		p.write("read %s %d", p.address(), oneOf(p.numbers, 0, 1, 8, p.below(100), 65537))
	case 13:
		p.write("write %s %s", p.address(), p.data())
	case 14:
		p.write("trim")
	case 15:
		p.write("stats")
	}
}

func (p *pen) ask() {
	switch p.below(14) {
	case 0, 1:
		p.write("live")
	case 2:
		p.write("pages")
	case 3:
		p.write("sizes")
	case 4:
		p.write("freelists")
	case 5, 6:
		p.write("waste %d", p.size())
	case 7, 8:
		p.write("stuck %d%s", 16<<p.below(10), oneOf(p.numbers, "", " !"))
	case 9:
		p.write("nofit %d", 16<<p.below(10))
	case 10:
		p.write("stuck %d", p.size())
	case 11:
		p.write("check %s", p.name("image"))
	case 12:
		p.write("names")
	case 13:
		p.write("save %s", p.anyName())
	}
}

func (p *pen) onTable() {
	name := p.name("table")
	if p.news("table") {
		p.write("table %s%s", p.anyName(), p.deny())
		return
	}
	switch p.below(7) {
	case 0, 1, 2, 3:
		p.write("set %s %s %s%s", name, p.key(), p.data(), p.deny())
	case 4:
		p.write("get %s %s", name, p.key())
	case 5:
		p.write("del %s %s", name, p.key())
	case 6:
		p.write("keys %s", name)
	}
}

func (p *pen) onArena() {
	name := p.name("arena")
	if p.news("arena") {
		p.write("arena %s %d", p.anyName(), oneOf(p.numbers, p.size(), 100))
		return
	}
	switch p.below(7) {
	case 0, 1, 2, 3:
		p.write("take %s %d %d%s", name, p.size(), oneOf(p.numbers, 1, 1, 8, 64, 4096, 3), p.deny())
	case 4, 5:
		p.write("mark %s", name)
	case 6:
		p.write("release %s %d", name, oneOf(p.numbers, 0, 1, p.below(6), 1<<62))
	}
}

func (p *pen) onStore() {
	name := p.name("objects")
	if p.news("objects") {
		p.write("objects %s", p.anyName())
		return
	}
	switch p.below(12) {
	case 0, 1, 2, 11:
		p.write("make %s %d %d%s", name, p.below(4), oneOf(p.numbers, 0, p.below(50), p.below(9000)), p.deny())
	case 3, 4:
		p.write("put %s %s %d %s", name, p.object(name), p.below(4), p.object(name))
	case 5:
		p.write("word %s %s %d", name, p.object(name), p.below(4))
	case 6, 7:
		p.write("root %s %s %s", name, oneOf(p.numbers, "a", "r"), p.object(name))
	case 8:
		p.write("unroot %s %s", name, oneOf(p.numbers, "a", "r"))
	case 9, 10:
		p.write("collect %s", name)
	}
}

func (p *pen) onVault() {
	switch p.below(12) {
	case 0, 1, 2, 3:
		p.write("vmalloc %d%s", p.size(), p.deny())
	case 4, 5:
		p.write("vfree %d", p.handle())
	case 6:
		p.write("pin %d", p.handle())
	case 7:
		p.write("unpin %d", p.handle())
	case 8:
		p.write("compact")
	case 9:
		p.write("vwrite %d %d %s", p.handle(), p.below(20), p.data())
	case 10:
		p.write("vread %d %d %d", p.handle(), p.below(20), oneOf(p.numbers, uint64(p.below(40)), 0, 16, p.word()))
	case 11:
		p.write("vstats")
	}
}

// odd writes a line in which something is strange.
func (p *pen) odd() {
	at := p.numbers
	r := oneOf(at, rows()...)
	words := r.words()
	i := at.below(len(words))
	switch at.below(4) {
	case 0:
		words = slices.Delete(words, i, i+1)
	case 1:
		words = slices.Insert(words, i, oneOf(at, "", "1", "x", "!", "-"))
	case 2:
		words[i] = oneOf(at, "", "A", "01", "1", "$1", "$9999", "!", "-", "x", "ff", "18446744073709551615", "18446744073709551616")
	case 3:
		words[0] = strings.ToUpper(words[0])
	}
	p.write("%s", strings.Join(words, " "))
}

// begin writes a line behind which much is gone.
func (p *pen) begin() {
	switch p.below(12) {
	case 0:
		p.write("heap %d %d %d", oneOf(p.numbers, uint64(1<<20), 1<<20, 4096, 1<<63), p.below(5), p.below(5))
	case 1:
		p.write("vault %d %d %d", oneOf(p.numbers, uint64(1<<20), 1<<20, 4096), p.below(5), p.below(4))
	case 2:
		p.write("clear")
	case 3, 4, 5, 6, 7:
		p.write("restore %s", p.name("image"))
	default:
		list := slices.Sorted(maps.Keys(p.book.names))
		p.write("drop %s", oneOf(p.numbers, append(list, "x")...))
	}
}

// P21.4, P21.5: long texts in which all stands side by side say what the calls that the lines name answer, done one by one.
func TestLikeCalls(t *testing.T) {
	met := map[string]int{}
	for seed := range 500 {
		row := numbers(seed)
		p := &pen{numbers: &row, book: newBook()}
		if seed%10 > 0 {
			p.write("heap 65536 %d %d", 1+row.below(6), row.below(5))
			p.write("vault 1048576 %d %d", 1+row.below(4), row.below(4))
		}
		ended := []int{}
		for len(p.lines) < 300 {
			p.draw()
			ended = append(ended, p.book.said.Len())
			word, _, _ := strings.Cut(p.lines[len(p.lines)-1], " ")
			met[word]++
			last := p.book.said.String()
			if !strings.HasPrefix(last[strings.LastIndex(strings.TrimSuffix(last, "\n"), "\n")+1:], "error") {
				met[word+" is done"]++
			}
		}
		want := p.book.said.String()
		if got := run(t, strings.Join(p.lines, "\n")); got != want {
			first := 0
			for first < len(got) && first < len(want) && got[first] == want[first] {
				first++
			}
			at, _ := slices.BinarySearch(ended, first+1)
			t.Fatalf("seed %d: %.200q: %.100q, not %.100q", seed, p.lines[max(0, at-1):min(at+3, len(p.lines))], got[first:], want[first:])
		}
	}
	for _, r := range rows() {
		if met[r.word] < 100 || met[r.word+" is done"] < 50 {
			t.Errorf("%s came %d times, and was done %d times", r.word, met[r.word], met[r.word+" is done"])
		}
	}
}

// P21.5: each line alone, behind all and behind nothing, with and without `!`.
func TestEachLine(t *testing.T) {
	for _, ahead := range []string{"", all} {
		for _, r := range rows() {
			for _, deny := range []string{"", " !"} {
				for _, behind := range []string{"", look} {
					text := lines(join(ahead, r.line()+deny, behind))
					b := newBook()
					for line := range strings.SplitSeq(text, "\n") {
						b.line(line)
					}
					if got := run(t, text); got != b.said.String() {
						t.Errorf("%s%s: %q, not %q", r.line(), deny, got, b.said.String())
					}
				}
			}
		}
	}
}
