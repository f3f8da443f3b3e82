package shell_test

import (
	"fmt"
	"maps"
	"slices"
	"strings"
	"testing"

	"croft/api"
	"croft/oracle"
)

// movable is what must be known of a vault, by what its lines say alone.
type movable struct {
	size  uint64
	bytes []byte // that were written from its beginning on
	at    uint64 // where it is pinned
	pins  int
}

// T8: by the blocks alone it is told whether a vault's request is refused, and how many regions Compact leaves; what blocks hold goes with them.
func TestVaultLosesNoRoom(t *testing.T) {
	refused, compacted := 0, 0
	for seed := range 100 {
		row := numbers(seed)
		c := api.Config{Base: 65536, Limit: 1 + row.below(3), Order: seed % 4}
		text := fmt.Sprintf("vault %d %d %d", c.Base, c.Limit, c.Order)
		blocks, last, regions := map[int]*movable{}, 0, 0
		// a line is drawn, and the whole text done once more: so what is drawn may hang on what was said.
		next := func(line string) string {
			text += "|" + line
			list := said(t, text+"|vstats")
			fmt.Sscanf(list[len(list)-1], "%d", &regions)
			regions >>= 12 + c.Order
			return list[len(list)-2]
		}
		least := func(more ...uint64) int {
			var stay []api.Block
			for _, b := range blocks {
				if b.pins > 0 {
					stay = append(stay, api.Block{P: b.at, Size: b.size})
				} else {
					more = append(more, b.size)
				}
			}
			n, can := oracle.Least(c, stay, more)
			if !can {
				return 1 << 30
			}
			return n
		}
		for range 60 {
			handles := slices.Sorted(maps.Keys(blocks))
			ahead := regions
			switch kind := row.below(12); {
			case kind < 5 || len(handles) == 0:
				r, deny := uint64(16)<<row.below(9+c.Order), row.below(2)
				n := least(r)
				got := next(fmt.Sprintf("vmalloc %d%s", r, []string{"", " !"}[deny]))
				if n > ahead && (deny == 1 || ahead == c.Limit) {
					refused++
					if got != "error 2" || regions != ahead {
						t.Fatalf("%s: %s", text, got)
					}
				} else {
					last++
					if got != fmt.Sprint(last) || (regions > ahead) != (n > ahead) {
						t.Fatalf("%s: %s, %d regions", text, got, regions)
					}
					b := &movable{size: r, bytes: row.bytes(int(min(r, 16)))}
					blocks[last] = b
					next(fmt.Sprintf("vwrite %d 0 %s", last, hexWord(b.bytes)))
				}
			case kind < 7:
				handle := oneOf(&row, handles...)
				want := "ok"
				if blocks[handle].pins > 0 {
					want = "error 9"
				} else {
					delete(blocks, handle)
				}
				if got := next(fmt.Sprintf("vfree %d", handle)); got != want {
					t.Fatalf("%s: %s", text, got)
				}
			case kind < 8:
				b, handle := blocks[handles[0]], handles[0]
				got := next(fmt.Sprintf("pin %d", handle))
				if b.pins > 0 && got != fmt.Sprint(b.at) {
					t.Fatalf("%s: a pinned block lies at %s, not at %d", text, got, b.at)
				}
				fmt.Sscan(got, &b.at)
				b.pins++
			case kind < 9:
				handle := oneOf(&row, handles...)
				want := "ok"
				if blocks[handle].pins == 0 {
					want = "error 9"
				} else {
					blocks[handle].pins--
				}
				if got := next(fmt.Sprintf("unpin %d", handle)); got != want {
					t.Fatalf("%s: %s", text, got)
				}
			case kind < 10:
				compacted++
				if got := next("compact"); got != fmt.Sprint(ahead-least()) || regions != least() {
					t.Fatalf("%s: %s, %d regions", text, got, regions)
				}
			default:
				handle := oneOf(&row, handles...)
				if got := next(fmt.Sprintf("vread %d 0 %d", handle, len(blocks[handle].bytes))); got != hexWord(blocks[handle].bytes) {
					t.Fatalf("%s: %s", text, got)
				}
			}
		}
	}
	if refused < 100 || compacted < 100 {
		t.Errorf("%d were refused, %d compacted", refused, compacted)
	}
}

// T9: collect frees just the objects to which no way leads from a name; those that stay keep their words.
func TestWhatLeadsNowhereGoes(t *testing.T) {
	went := 0
	for seed := range 60 {
		row := numbers(seed)
		list, want := []string{"heap 65536 8 2", "objects o"}, []string{"ok", "ok"}
		add := func(says, format string, parts ...any) {
			list, want = append(list, fmt.Sprintf(format, parts...)), append(want, says)
		}
		words, roots := map[int][]int{}, map[string]int{}
		for range 100 {
			var objects []int
			for p := range words {
				objects = append(objects, p)
			}
			slices.Sort(objects)
			switch kind := row.below(20); {
			case kind < 7 || len(objects) == 0:
				n := row.below(4)
				p := makes(t, list, n)
				words[p] = make([]int, n)
				add(fmt.Sprint(p), "make o %d 0", n)
			case kind < 12:
				p, to := oneOf(&row, objects...), oneOf(&row, append(objects, 0)...)
				if n := len(words[p]); n > 0 {
					i := row.below(n)
					words[p][i] = to
					add("ok", "put o %d %d %d", p, i, to)
				}
			case kind < 15:
				name, p := oneOf(&row, "a", "b", "c"), oneOf(&row, objects...)
				roots[name] = p
				add("ok", "root o %s %d", name, p)
			case kind < 17:
				name := oneOf(&row, "a", "b", "c")
				_, is := roots[name]
				delete(roots, name)
				add(map[bool]string{true: "ok", false: "error 1"}[is], "unroot o %s", name)
			default:
				freed, bytes := sweep(words, roots)
				went += freed
				add(fmt.Sprintf("%d %d", freed, bytes), "collect o")
			}
			for p, held := range words {
				for i, to := range held {
					if row.below(20) == 0 {
						add(fmt.Sprint(to), "word o %d %d", p, i)
					}
				}
			}
		}
		if len(list) > 1000 {
			list, want = list[:1000], want[:1000]
		}
		if got := said(t, strings.Join(list, "|")); !slices.Equal(got, want) {
			t.Fatalf("seed %d: %q\n%q, not\n%q", seed, list, got, want)
		}
	}
	if went < 100 {
		t.Errorf("%d objects went", went)
	}
}

// makes tells where a new object of n words lies behind a text.
func makes(t *testing.T, list []string, n int) (p int) {
	t.Helper()
	got := said(t, strings.Join(list, "|")+fmt.Sprintf("|make o %d 0", n))
	fmt.Sscan(got[len(got)-1], &p)
	if p == 0 {
		t.Fatalf("make says %q", got[len(got)-1])
	}
	return p
}

// sweep takes the objects away to which no way leads, and tells how many they were, and how many bytes their blocks had.
func sweep(words map[int][]int, roots map[string]int) (freed, bytes int) {
	reached := map[int]bool{0: true}
	var reach func(p int)
	reach = func(p int) {
		if !reached[p] {
			reached[p] = true
			for _, to := range words[p] {
				reach(to)
			}
		}
	}
	for _, p := range roots {
		reach(p)
	}
	for p, held := range words {
		if !reached[p] {
			freed++
			bytes += map[bool]int{true: 16, false: 32}[len(held) <= 2]
			delete(words, p)
		}
	}
	return freed, bytes
}

// P19.7 by lines: a table is a map, and tells keys in the order of coming; behind drop its heap has what it had.
func TestTableIsMap(t *testing.T) {
	for seed := range 60 {
		row := numbers(seed)
		list, want := []string{"heap 65536 16 2", "malloc 100", "table t"}, []string{"ok", "ok 65536", "ok"}
		values, order := map[string]string{}, []string{}
		for range 150 {
			key, value := hexWord(row.bytes(row.below(2))), hexWord(row.bytes(row.below(100)))
			switch kind := row.below(10); {
			case kind < 5:
				if _, is := values[key]; !is {
					order = append(order, key)
				}
				values[key] = value
				list, want = append(list, "set t "+key+" "+value), append(want, "ok")
			case kind < 7:
				_, is := values[key]
				delete(values, key)
				order = slices.DeleteFunc(order, func(other string) bool { return other == key })
				list, want = append(list, "del t "+key), append(want, yesNo(is))
			case kind < 9:
				got, is := values[key]
				if !is {
					got = "none"
				}
				list, want = append(list, "get t "+key), append(want, got)
			default:
				list = append(list, "keys t")
				for _, key := range order {
					want = append(want, key+" "+values[key])
				}
			}
		}
		list, want = append(list, "drop t", "live"), append(want, "ok", "65536 128")
		if got := said(t, strings.Join(list, "|")); !slices.Equal(got, want) {
			t.Fatalf("seed %d: %q, not %q", seed, got, want)
		}
	}
}

// P15.5 by lines: pieces lie in live blocks, apart from one another, at a multiple of what was asked for.
func TestPiecesApart(t *testing.T) {
	for seed := range 60 {
		row := numbers(seed)
		list := []string{"heap 65536 16 2", "arena a 500", "arena b 3000"}
		type piece struct{ n, align uint64 }
		var asked []piece
		for range 150 {
			x := piece{uint64(row.below(400)), 1 << row.below(8)}
			asked = append(asked, x)
			list = append(list, fmt.Sprintf("take %s %d %d", oneOf(&row, "a", "b"), x.n, x.align))
		}
		got := said(t, strings.Join(append(list, "live"), "|"))
		var live, pieces []api.Block
		for _, line := range got[len(list):] {
			var b api.Block
			fmt.Sscanf(line, "%d %d", &b.P, &b.Size)
			live = append(live, b)
		}
		inside := func(x, b api.Block) bool { return x.P >= b.P && x.P+x.Size <= b.P+b.Size }
		for i, x := range asked {
			b := api.Block{Size: max(x.n, 1)}
			fmt.Sscan(got[3+i], &b.P)
			if b.P == 0 || b.P%x.align != 0 || !slices.ContainsFunc(live, func(chunk api.Block) bool { return inside(b, chunk) }) {
				t.Fatalf("seed %d: %s says %s", seed, list[3+i], got[3+i])
			}
			for _, other := range pieces {
				if b.P < other.P+other.Size && other.P < b.P+b.Size {
					t.Fatalf("seed %d: %s says %s, where a piece is", seed, list[3+i], got[3+i])
				}
			}
			pieces = append(pieces, b)
		}
	}
}
