package shell_test

import (
	"slices"
	"strings"
	"testing"
)

// begin is a text that makes a thing of a kind, under a name.
func begin(kind, name string) string {
	return map[string]string{"image": "save " + name, "table": "table " + name, "arena": "arena " + name + " 100", "objects": "objects " + name}[kind]
}

// kinds are those of things that have names.
var kinds = []string{"image", "table", "arena", "objects"}

// P21.5: names tells the name, and image, table, arena or objects, rising by the names.
func TestNames(t *testing.T) {
	wants(t, "names", "")
	wants(t, "heap 65536 4 1|names", "ok")
	for _, kind := range kinds {
		wants(t, "heap 65536 4 1|"+begin(kind, "n")+"|names", "ok|ok|n "+kind)
	}
	names := []string{"a", "aa", "ab", "abcdefghijklmnop", "b", "ba", "heap", "image", "names", "y", "z", "za", "zz", "zzzzzzzzzzzzzzzz"}
	for seed := range 200 {
		row := numbers(seed)
		text, want := "heap 65536 4 1", []string{}
		for _, i := range permuted(len(names), &row) {
			kind := oneOf(&row, kinds...)
			text += "|" + begin(kind, names[i])
			want = append(want, names[i]+" "+kind)
		}
		slices.SortFunc(want, func(one, other string) int {
			return strings.Compare(strings.Fields(one)[0], strings.Fields(other)[0])
		})
		wants(t, text+"|names", strings.Repeat("ok|", len(names)+1)+strings.Join(want, "|"))
	}
}

// permuted tells 0, 1, .. in some order.
func permuted(count int, row *numbers) []int {
	list := make([]int, count)
	for i := range list {
		j := row.below(i + 1)
		list[i], list[j] = list[j], i
	}
	return list
}

// P21.5: as many names as a text can give.
func TestManyNames(t *testing.T) {
	var text, want []string
	for i := range 990 {
		name := string([]byte{'a' + byte(i%26), 'a' + byte(i/26%26), 'a' + byte(i/676)})
		kind := kinds[1:][i%3]
		if i%100 == 0 {
			kind = "image"
		}
		text, want = append(text, begin(kind, name)), append(want, name+" "+kind)
	}
	slices.Sort(want)
	got := said(t, "heap 65536 64 4|"+strings.Join(text, "|")+"|names")
	if !slices.Equal(got[991:], want) {
		t.Errorf("%q", got[991:])
	}
}

// P21.5: a name that is given something new stands for that alone, be it of the same kind or of another; what it stood for is not dropped.
func TestGivenAnew(t *testing.T) {
	for _, one := range kinds {
		for _, other := range kinds {
			wants(t, "heap 65536 4 1|"+begin(one, "n")+"|"+begin(other, "n")+"|names", "ok|ok|ok|n "+other)
			wants(t, "heap 65536 4 1|"+begin(one, "n")+"|"+begin(other, "m")+"|"+begin(other, "n")+"|names", "ok|ok|ok|ok|m "+other+"|n "+other)
		}
	}
	const ahead = "heap 65536 4 1|table n|set n 61 62|"
	wants(t, ahead+"table n|get n 61|keys n|live", "ok|ok|ok|ok|none|65536 64|65600 64|65664 64")
	wants(t, ahead+"arena n 16|get n 61|take n 1 1|live|drop n|live", "ok|ok|ok|ok|error 9|69632|65536 64|65600 64|69632 16|ok|65536 64|65600 64")
	wants(t, ahead+"objects n|get n 61|make n 0 1|drop n|live", "ok|ok|ok|ok|error 9|69632|ok|65536 64|65600 64|69632 16")
	wants(t, ahead+"save n|get n 61|check n|drop n|live", "ok|ok|ok|ok|error 9|0 0|ok|65536 64|65600 64")
	wants(t, "heap 65536 4 1|arena n 16|take n 1 1|arena n 32|mark n|take n 1 1|live|release n 0|live", "ok|ok|65536|ok|0|69632|65536 16|69632 32|ok|65536 16")
	wants(t, "heap 65536 4 1|objects n|make n 1 0|root n r 65536|objects n|word n 65536 0|unroot n r|collect n|live", "ok|ok|65536|ok|ok|error 1|error 1|0 0|65536 16")
	wants(t, "heap 65536 4 1|save n|malloc 1|save n|restore n|live", "ok|ok|ok 65536|ok|ok|65536 16")
}

// P21.3, P21.5: a name that would be given something new keeps what it stands for, where that is refused.
func TestNotGiven(t *testing.T) {
	ahead := "heap 65536 8 0|save i|table t|arena a 16|objects o" + strings.Repeat("|malloc 64", 63) // the table's page is full
	for line, want := range map[string]string{
		"table %s !": "error 2", "arena %s 0": "error 1", "arena %s 4097": "error 3",
		"table %s 1": "error 7", "arena %s": "error 7", "save %s !": "error 7", "objects %s !": "error 7",
	} {
		for _, name := range []string{"i", "t", "a", "o", "x"} {
			refuses(t, ahead, strings.ReplaceAll(line, "%s", name), "names|live|stats|check i|keys t|take a 1 1|make o 0 0", want)
		}
	}
}

// P21.5: behind heap all names are gone; behind one that is refused none.
func TestNamesBehindHeap(t *testing.T) {
	for _, kind := range kinds {
		wants(t, "heap 65536 4 1|"+begin(kind, "n")+"|heap 65536 4 1|names|drop n|live|stats", "ok|ok|ok|error 9|ok 0 0 0 0")
		wants(t, "heap 65536 4 1|"+begin(kind, "n")+"|heap 1 4 1|names|drop n|names", "ok|ok|error 1|n "+kind+"|ok")
	}
	for _, line := range []string{"heap 0 1 1", "heap 65536 0 1", "heap 65536 65 0", "heap 65536 1 9", "heap 65536 8 8", "heap 4096 1 1", "heap 9223372036854771712 2 0", "heap 18446744073709547520 1 0", "heap 1 1 1 1", "heap 1"} {
		want := "error 1"
		if !isLine(line) {
			want = "error 7"
		}
		refuses(t, all, line, look, want)
	}
}

// P21.5: behind restore the names of images alone are there, all of them.
func TestNamesBehindRestore(t *testing.T) {
	const ahead = "heap 65536 4 1|save i|table t|arena a 16|objects o|save j|table u"
	wants(t, ahead+"|restore i|names", "ok|ok|ok|ok|ok|ok|ok|ok|i image|j image")
	wants(t, ahead+"|restore j|names|keys t|mark a|collect o|restore i|check j|names", "ok|ok|ok|ok|ok|ok|ok|ok|i image|j image|error 9|error 9|error 9|ok|0 0|i image|j image")
	refuses(t, ahead, "restore t", "names|live", "error 9")
	refuses(t, ahead, "restore x", "names|live", "error 9")
}

// P21.5: clear: no name stands for anything any more. What they stood for is not dropped, the heap, its answers and the vault stay.
func TestClear(t *testing.T) {
	first := strings.Join(said(t, all), "|")
	live := strings.Join(said(t, all+"|live|usable $2|vstats|vread 1 3 2|pin 2")[len(said(t, all)):], "|")
	wants(t, all+"|clear|live|usable $2|vstats|vread 1 3 2|pin 2", first+"|ok|"+live)
	wants(t, all+"|clear|names|clear|names|table t|keys t|names", first+"|ok|ok|ok|t table")
	for _, r := range rows() {
		if slices.Contains(kinds, r.need) || r.need == "name" {
			ends(t, all+"|clear|"+r.line(), "error 9")
		}
	}
}

// P21.5: drop: of a table Drop, of an arena Reset; the name stands for nothing any more.
func TestDrop(t *testing.T) {
	const ahead = "heap 65536 4 1|malloc 100|"
	wants(t, ahead+"table n|set n 61 62|set n 62 -|live|drop n|live|names|keys n|drop n", "ok|ok 65536|ok|ok|ok|65536 128|69632 64|69696 64|69760 64|ok|65536 128|error 9|error 9")
	wants(t, ahead+"arena n 16|take n 1 1|take n 100 1|live|drop n|live|names|mark n|drop n", "ok|ok 65536|ok|69632|65664|65536 128|65664 128|69632 16|ok|65536 128|error 9|error 9")
	wants(t, ahead+"objects n|make n 1 0|make n 0 9|root n r 69632|drop n|live|names|collect n|drop n", "ok|ok 65536|ok|69632|69648|ok|ok|65536 128|69632 16|69648 16|error 9|error 9")
	wants(t, ahead+"save n|drop n|live|names|check n|restore n|drop n", "ok|ok 65536|ok|ok|65536 128|error 9|error 9|error 9")
	wants(t, ahead+"table n|arena m 16|take m 1 1|drop n|take m 1 1|names|drop m|live", "ok|ok 65536|ok|ok|73728|ok|73729|m arena|ok|65536 128")
	wants(t, ahead+"table n|drop n|table n|set n 61 62|get n 61|names", "ok|ok 65536|ok|ok|ok|ok|62|n table")
}

// P21.2: names of one kind have nothing in common; those of a store's roots are its own.
func TestNamesApart(t *testing.T) {
	wants(t, "heap 65536 4 1|table a|table b|set a 61 01|set b 61 02|get a 61|get b 61|del a 61|get a 61|get b 61", "ok|ok|ok|ok|ok|01|02|yes|none|02")
	wants(t, "heap 65536 4 1|arena a 64|arena b 64|take a 8 1|take b 8 1|take a 8 1|mark a|mark a|mark b|release b 1|release a 1|take b 8 1", "ok|ok|ok|65536|65600|65544|0|1|0|error 9|ok|65608")
	wants(t, "heap 65536 4 1|objects a|objects b|make a 1 0|make b 1 0|put a 65536 0 65552|root a r 65552|root a r 65536|root b r 65552|unroot a r|collect b|collect a|unroot b r|collect b",
		"ok|ok|ok|65536|65552|error 1|error 1|ok|ok|ok|0 0|1 16|ok|1 16")
	wants(t, "heap 65536 4 1|objects o|make o 0 1|root o t 65536|table t|names|unroot o t|names|unroot o t", "ok|ok|65536|ok|ok|o objects|t table|ok|o objects|t table|error 1")
}
