package shell_test

import (
	"cmp"
	"fmt"
	"slices"
	"strings"
	"testing"

	"croft/api"
	"croft/oracle"
)

// keeper holds what the lines of chapter 12 say against T1 to T6. Whether an error comes, and a region, it tells by the live blocks alone; where a block lies it is told, and holds against what must be.
type keeper struct {
	t       *testing.T
	c       api.Config
	regions int
	live    []api.Block
	held    map[uint64][]int // what is known of each live block's bytes; -1 of what is not
	answers []uint64
	said    []string
}

func (k *keeper) regionBytes() uint64 { return 4096 << k.c.Order }

// next tells the next line that was said.
func (k *keeper) next() string {
	k.t.Helper()
	if len(k.said) == 0 {
		k.t.Fatal("too little is said")
	}
	line := k.said[0]
	k.said = k.said[1:]
	return line
}

// wants asks for the next line.
func (k *keeper) wants(format string, parts ...any) {
	k.t.Helper()
	if got, want := k.next(), fmt.Sprintf(format, parts...); got != want {
		k.t.Fatalf("%q, not %q", got, want)
	}
}

// starts tells the block that begins at p.
func (k *keeper) starts(p uint64) (api.Block, bool) {
	i := slices.IndexFunc(k.live, func(b api.Block) bool { return b.P == p })
	if i < 0 {
		return api.Block{}, false
	}
	return k.live[i], true
}

// bytes tells what is known of n bytes from p on, if they lie in a block.
func (k *keeper) bytes(p, n uint64) ([]int, bool) {
	for _, b := range k.live {
		if p >= b.P && p-b.P < b.Size && n <= b.P+b.Size-p {
			return k.held[b.P][p-b.P:][:n], true
		}
	}
	return nil, false
}

// sizeFor tells the size for a request; 0 if it is too big.
func (k *keeper) sizeFor(size, align uint64) uint64 {
	r := uint64(16)
	for r < max(size, align) && r <= k.regionBytes() {
		r *= 2
	}
	if r > k.regionBytes() {
		return 0
	}
	return r
}

// comes holds a request for a block of size r, with these bytes at its beginning, and rest known of each other one.
func (k *keeper) comes(r uint64, deny bool, begins []int, rest int) uint64 {
	k.t.Helper()
	if r == 0 {
		k.wants("error 3")
		return 0
	}
	if oracle.Stuck(k.c, k.regions, k.live, r, deny) {
		k.wants("error 2")
		k.waste(r)
		return 0
	}
	if oracle.NoFit(k.c, k.regions, k.live, r) {
		k.regions++
	}
	var p uint64
	if got := k.next(); !strings.HasPrefix(got, "ok ") {
		k.t.Fatalf("%d bytes: %q", r, got)
	} else {
		fmt.Sscanf(got, "ok %d", &p)
	}
	k.live = append(k.live, api.Block{P: p, Size: r})
	if oracle.Sound(k.c, k.regions, k.live) != -1 {
		k.t.Fatalf("%d bytes at %d are not committed, or meet another block", r, p)
	}
	k.held[p] = append(slices.Clone(begins), slices.Repeat([]int{rest}, int(r)-len(begins))...)
	return p
}

// waste is T4's inequality.
func (k *keeper) waste(r uint64) {
	k.t.Helper()
	c, m, sum := max(r, 4096), uint64(16), uint64(0)
	if r == 16 {
		m = 32
	}
	if !slices.ContainsFunc(k.live, func(b api.Block) bool { return b.Size < 4096 }) {
		m = 4096
	}
	for _, b := range k.live {
		sum += b.Size
	}
	if c*sum < m*k.regionBytes()*uint64(k.regions) {
		k.t.Fatalf("%d bytes are refused, with %d live bytes in %d regions", r, sum, k.regions)
	}
}

func (k *keeper) goes(p uint64) {
	k.live = slices.DeleteFunc(k.live, func(b api.Block) bool { return b.P == p })
	delete(k.held, p)
}

// line holds what one says.
func (k *keeper) line(x told) {
	k.t.Helper()
	v, p := uint64(0), uint64(0)
	if len(x.refs) > 0 {
		if x.refs[0] > uint64(len(k.answers)) {
			k.wants("error 1")
			k.answers = append(k.answers, 0)
			return
		}
		p = x.far[0]
		if x.refs[0] > 0 {
			p += k.answers[x.refs[0]-1]
		}
	}
	switch x.word {
	case "malloc":
		v = k.comes(k.sizeFor(x.n[0], 1), x.not, nil, -1)
	case "calloc":
		v = k.comes(k.sizeFor(x.n[0]*x.n[1], 1), x.not, nil, 0)
	case "aligned":
		if x.n[0] == 0 || x.n[0]&(x.n[0]-1) != 0 {
			k.wants("error 1")
		} else {
			v = k.comes(k.sizeFor(x.n[1], x.n[0]), x.not, nil, -1)
		}
	case "realloc":
		v = k.realloc(p, x)
	case "free":
		k.free(p)
	case "usable":
		if b, is := k.starts(p); is {
			v = b.Size
			k.wants("ok %d", v)
		} else {
			k.wants("error 1")
		}
	case "stats":
		k.stats()
	case "trim":
		v = k.trim()
	default:
		v = k.onBytes(p, x)
	}
	k.answers = append(k.answers, v)
}

func (k *keeper) realloc(p uint64, x told) uint64 {
	k.t.Helper()
	r := k.sizeFor(x.n[0], 1)
	b, is := k.starts(p)
	switch {
	case p == 0:
		return k.comes(r, x.not, nil, -1)
	case !is:
		k.wants("error 1")
		return 0
	case r == b.Size || r >= 4096 && r < b.Size:
		k.wants("ok %d", p)
		k.held[p] = k.held[p][:r]
		i := slices.Index(k.live, b)
		k.live[i].Size = r
		return p
	}
	v := k.comes(r, x.not, k.held[p][:min(r, b.Size)], -1)
	if v != 0 {
		k.goes(p)
	}
	return v
}

func (k *keeper) free(p uint64) {
	k.t.Helper()
	if _, is := k.starts(p); !is && p != 0 {
		k.wants("error 1")
		return
	}
	k.wants("ok")
	k.goes(p)
}

// met tells the committed pages that meet a live block, by their numbers.
func (k *keeper) met() map[uint64]bool {
	pages := map[uint64]bool{}
	for _, b := range k.live {
		for p := b.P / 4096; p <= (b.P+b.Size-1)/4096; p++ {
			pages[p-k.c.Base/4096] = true
		}
	}
	return pages
}

func (k *keeper) stats() {
	k.t.Helper()
	sum := uint64(0)
	for _, b := range k.live {
		sum += b.Size
	}
	k.wants("ok %d %d %d %d", k.regionBytes()*uint64(k.regions), sum, len(k.live), k.regions<<k.c.Order-len(k.met()))
}

func (k *keeper) trim() uint64 {
	k.t.Helper()
	count, pages := uint64(0), uint64(1)<<k.c.Order
	for ; k.regions > 0; k.regions-- {
		for page := range k.met() {
			if page/pages == uint64(k.regions-1) {
				k.wants("ok %d", count)
				return count
			}
		}
		count++
	}
	k.wants("ok %d", count)
	return count
}

// onBytes holds a line that looks at bytes, or stores some.
func (k *keeper) onBytes(p uint64, x told) uint64 {
	k.t.Helper()
	count := map[string]uint64{"load": 1, "store": 1, "loadword": 8, "storeword": 8}[x.word]
	switch x.word {
	case "read":
		count = x.n[0]
	case "write":
		count = uint64(len(x.data[0]))
	}
	held, is := k.bytes(p, count)
	if !is && count > 0 {
		k.wants("error 4")
		return 0
	}
	switch x.word {
	case "store", "storeword":
		for i := range held {
			held[i] = int(x.n[0] >> (8 * i) & 255)
		}
		k.wants("ok")
		return 0
	case "write":
		for i := range held {
			held[i] = int(x.data[0][i])
		}
		k.wants("ok")
		return 0
	}
	return k.loads(held, x)
}

// loads holds what a line tells of bytes; of those that nobody knew they are known from then on.
func (k *keeper) loads(held []int, x told) uint64 {
	k.t.Helper()
	got := strings.TrimPrefix(k.next(), "ok ")
	v := uint64(0)
	if x.word == "read" {
		if hexWord(make([]byte, len(held))) != got && len(got) != max(1, 2*len(held)) {
			k.t.Fatalf("%q of %d bytes", got, len(held))
		}
	} else {
		fmt.Sscan(got, &v)
	}
	for i := range held {
		is := int(v >> (8 * i) & 255)
		if x.word == "read" {
			fmt.Sscanf(got[2*i:2*i+2], "%02x", &is)
		}
		if held[i] >= 0 && held[i] != is {
			k.t.Fatalf("the byte %d is %d, not %d", i, is, held[i])
		}
		held[i] = is
	}
	return v
}

// anyCall draws a line of chapter 12 without a look at what those ahead say.
func anyCall(row *numbers, c api.Config, answers int) string {
	r := uint64(8) << row.below(11+c.Order)
	size := oneOf(row, r, r, r, r-uint64(row.below(int(r))), r+1)
	deny := oneOf(row, "", "", " !")
	at := oneOf(row, fmt.Sprintf("$%d", 1+row.below(answers+2)), fmt.Sprintf("$%d", 1+row.below(answers+1)), fmt.Sprintf("$%d+%d", 1+row.below(answers+1), 1+row.below(30)))
	if row.below(30) == 0 {
		at = fmt.Sprint(oneOf(row, 0, c.Base, c.Base-1, row.word()))
	}
	switch row.below(20) {
	case 0, 1, 2, 3, 4:
		return fmt.Sprintf("malloc %d%s", size, deny)
	case 5:
		return fmt.Sprintf("calloc %d %d%s", 1+row.below(3), size/2, deny)
	case 6:
		return fmt.Sprintf("aligned %d %d%s", 1<<row.below(14), size, deny)
	case 7, 8, 9:
		return fmt.Sprintf("realloc %s %d%s", at, size, deny)
	case 10, 11, 12, 13:
		return "free " + at
	case 14:
		return oneOf(row, "usable ", "load ", "loadword ") + at
	case 15:
		return fmt.Sprintf("%s %s %d", oneOf(row, "store", "storeword"), at, row.word())
	case 16:
		return fmt.Sprintf("read %s %d", at, row.below(40))
	case 17:
		return fmt.Sprintf("write %s %s", at, hexWord(row.bytes(row.below(40))))
	case 18:
		return oneOf(row, "trim", "stats", "stats")
	}
	return fmt.Sprintf("malloc %d%s", 16<<row.below(4), deny)
}

// T1 to T6, P21.4: behind long texts of such lines, with `live`, `stuck` and `nofit` between.
func TestHeapKeepsItsPromises(t *testing.T) {
	for seed := range 150 {
		row := numbers(seed)
		c := api.Config{Base: 1 << 32, Limit: 1 + row.below(5), Order: seed % 6}
		list := []string{fmt.Sprintf("heap %d %d %d", c.Base, c.Limit, c.Order)}
		for calls := 0; len(list) < 600; {
			switch row.below(10) {
			case 0:
				list = append(list, "live")
			case 1:
				list = append(list, fmt.Sprintf("%s %d%s", "stuck", 16<<row.below(9+c.Order), oneOf(&row, "", " !")))
			case 2:
				list = append(list, fmt.Sprintf("%s %d", "nofit", 16<<row.below(9+c.Order)))
			default:
				list = append(list, anyCall(&row, c, calls))
				calls++
			}
		}
		k := &keeper{t: t, c: c, held: map[uint64][]int{}, said: said(t, strings.Join(list, "\n"))}
		k.wants("ok")
		for _, line := range list[1:] {
			x, is := tellLine(line)
			switch {
			case !is:
				t.Fatalf("%s is no line", line)
			case x.word == "live":
				slices.SortFunc(k.live, func(one, other api.Block) int { return cmp.Compare(one.P, other.P) })
				for _, b := range k.live {
					k.wants("%d %d", b.P, b.Size)
				}
			case x.word == "stuck":
				k.wants("%s", yesNo(oracle.Stuck(c, k.regions, k.live, x.n[0], x.not)))
			case x.word == "nofit":
				k.wants("%s", yesNo(oracle.NoFit(c, k.regions, k.live, x.n[0])))
			default:
				k.line(x)
			}
		}
		if len(k.said) > 0 {
			t.Fatalf("more is said: %q", k.said)
		}
	}
}

// P21.5: stuck says yes just if the same malloc would find no place, nofit just if the heap would grow, were it below Limit.
func TestStuckIsMalloc(t *testing.T) {
	met := map[string]int{}
	for seed := range 120 {
		row := numbers(seed)
		order := seed % 4
		list := someCalls(&row, fmt.Sprintf("heap 65536 %d %d", 1+row.below(3), order), 60)
		ahead := strings.Join(list, "|")
		for r := 16; r <= 4096<<order; r *= 4 {
			for _, deny := range []string{"", " !"} {
				got := said(t, fmt.Sprintf("%s|stuck %d%s|nofit %[2]d|stats|malloc %[2]d%[3]s|stats", ahead, r, deny))
				got = got[len(got)-5:]
				if (got[0] == "yes") != (got[3] == "error 2") {
					t.Fatalf("%s: %d%s: %q", ahead, r, deny, got)
				}
				if grown := regionsOf(got[4]) > regionsOf(got[2]); got[3] != "error 2" && (got[1] == "yes") != grown {
					t.Fatalf("%s: %d%s: %q", ahead, r, deny, got)
				}
				met[got[0]+got[1]]++
			}
		}
	}
	if len(met) != 3 || met["yesno"] != 0 {
		t.Errorf("met %v", met)
	}
}

// someCalls draws lines of chapter 12 on a heap.
func someCalls(row *numbers, heap string, count int) []string {
	list := []string{heap}
	var c api.Config
	fmt.Sscanf(heap, "heap %d %d %d", &c.Base, &c.Limit, &c.Order)
	for range count {
		list = append(list, anyCall(row, c, len(list)-1))
	}
	return list
}

// regionsOf tells H of what stats says.
func regionsOf(line string) (h uint64) {
	fmt.Sscanf(line, "ok %d", &h)
	return h
}

// worst is T4's text: k R / m blocks of m bytes, of which those go whose offset is no multiple of c; then a request of r bytes, denied.
func worst(order, k, m, r int) []string {
	region, c := 4096<<order, max(r, 4096)
	list := []string{fmt.Sprintf("heap 1048576 %d %d", k+1, order)}
	for range k * region / m {
		list = append(list, fmt.Sprintf("malloc %d", m))
	}
	for at := 0; at < k*region; at += m {
		if at%c != 0 {
			list = append(list, fmt.Sprintf("free %d", 1048576+at))
		}
	}
	return append(list, fmt.Sprintf("malloc %d !", r), "stats")
}

// T4: both bounds are met with equality: c L is m H; wherever a text has lines enough.
func TestWorst(t *testing.T) {
	met := 0
	for order := range 4 {
		for k := 1; k <= 3; k++ {
			for r := 16; r <= 4096<<order; r *= 2 {
				for _, m := range []int{max(16, 32*16/r), 4096} {
					list := worst(order, k, m, r)
					if len(list) > 1000 {
						continue
					}
					met++
					h, count := k*4096<<order, (k*4096<<order)/max(r, 4096)
					got := said(t, strings.Join(list, "|"))
					if want := fmt.Sprintf("ok %d %d %d %d", h, count*m, count, h/4096-count); got[len(got)-2] != "error 2" || got[len(got)-1] != want {
						t.Errorf("order %d, %d regions, r %d, m %d: %q, not %q", order, k, r, m, got[len(got)-2:], want)
					}
				}
			}
		}
	}
	if met < 100 {
		t.Errorf("%d texts", met)
	}
}

// T10: behind save and restore the heap says what it would say else, to every further line.
func TestRestoredHeap(t *testing.T) {
	for seed := range 100 {
		row := numbers(seed)
		ahead := someCalls(&row, fmt.Sprintf("heap 65536 %d %d", 1+row.below(4), seed%5), 120)
		p := &pen{numbers: &row, book: newBook()}
		for _, line := range ahead {
			p.write("%s", line)
		}
		p.lines, p.book.answers = nil, nil // addresses are told by numbers from here on, and by answers from here on
		first := len(said(t, strings.Join(ahead, "|")))
		for len(p.lines) < 120 {
			if line := anyCall(&row, p.book.heap.Config(), 0); !strings.Contains(line, "$") {
				p.write("%s", line)
			} else if live := p.book.heap.Live(); len(live) > 0 {
				b := oneOf(&row, live...)
				p.write("%s %d", oneOf(&row, "free", "usable", "load", "loadword"), b.P)
				p.write("read %d %d", b.P, min(b.Size, 64))
			}
			p.ask()
		}
		behind := slices.DeleteFunc(p.lines, func(line string) bool {
			return strings.HasPrefix(line, "check") || strings.HasPrefix(line, "names") || strings.HasPrefix(line, "save")
		})
		want := said(t, join(slices.Concat(ahead, behind)...))[first:]
		got := said(t, join(slices.Concat(ahead, []string{"save i", "malloc 1", "restore i"}, behind)...))[first+3:]
		if !slices.Equal(got, want) {
			t.Fatalf("seed %d: %q, not %q", seed, got, want)
		}
		ends(t, join(slices.Concat(ahead, behind)...)+"|save i|check i", "0 0")
	}
}
