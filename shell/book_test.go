package shell_test

import (
	"encoding/hex"
	"fmt"
	"maps"
	"math"
	"math/big"
	"regexp"
	"slices"
	"strconv"
	"strings"

	"croft/api"
	"croft/arena"
	"croft/dict"
	"croft/image"
	"croft/malloc"
	"croft/oracle"
	"croft/report"
	"croft/trace"
	"croft/vault"
	"croft/walk"
)

// What a field looks like, by P12.4 and P21.2.
var looks = map[string]string{
	"NAME":    `([a-z]{1,16})`,
	"N":       `(0|[1-9][0-9]*)`,
	"ADDRESS": `(0|[1-9][0-9]*|\$[1-9][0-9]*(?:\+[1-9][0-9]*)?)`,
	"HEX":     `(-|(?:[0-9a-f][0-9a-f])+)`,
}

// shapes tells for each word its row, and what its lines look like.
var shapes = func() map[string]shape {
	all := map[string]shape{}
	for _, r := range rows() {
		text := `\A` + r.word
		for _, field := range r.fields {
			text += " " + looks[field]
		}
		if r.deny {
			text += `( !)?`
		}
		all[r.word] = shape{r, regexp.MustCompile(text + `\z`)}
	}
	return all
}()

type shape struct {
	row
	pattern *regexp.Regexp
}

// told is what a line tells, field by field.
type told struct {
	row
	names []string
	n     []uint64
	refs  []uint64 // of each ADDRESS, 0 for none
	far   []uint64 // of each ADDRESS, the number
	data  [][]byte
	not   bool // denied
}

// tellLine reads a line by P12.4 and P21.2.
func tellLine(line string) (x told, is bool) {
	word, _, _ := strings.Cut(line, " ")
	s, is := shapes[word]
	if !is {
		return told{}, false
	}
	parts := s.pattern.FindStringSubmatch(line)
	if parts == nil {
		return told{}, false
	}
	x.row = s.row
	x.not = s.deny && parts[len(parts)-1] != ""
	for i, field := range s.fields {
		part := parts[i+1]
		switch field {
		case "NAME":
			x.names = append(x.names, part)
		case "N":
			x.n = append(x.n, number(part, &is))
		case "HEX":
			data, _ := hex.DecodeString(strings.TrimPrefix(part, "-"))
			x.data = append(x.data, data)
		case "ADDRESS":
			ref, far := uint64(0), part
			if strings.HasPrefix(part, "$") {
				first, behind, more := strings.Cut(part[1:], "+")
				ref, far = number(first, &is), "0"
				is = is && ref <= 4096
				if more {
					far = behind
				}
			}
			x.refs, x.far = append(x.refs, ref), append(x.far, number(far, &is))
		}
	}
	return x, is
}

// number tells one of digits; is falls where it is above 2^64 - 1.
func number(digits string, is *bool) uint64 {
	n, _ := new(big.Int).SetString(digits, 10)
	*is = *is && n.IsUint64()
	return n.Uint64()
}

// isLine says whether a line has a form, or says nothing.
func isLine(line string) bool {
	_, is := tellLine(line)
	return is || line == "" || line[0] == '#'
}

// book does lines one by one, each by the calls that the chapter's tables name.
type book struct {
	heap    *malloc.Heap
	answers []uint64
	names   map[string]string // the kind for each
	images  map[string]api.Image
	tables  map[string]*dict.Table
	arenas  map[string]*arena.Arena
	stores  map[string]*trace.Store
	vault   *vault.Vault
	said    strings.Builder
}

func newBook() *book {
	b := &book{}
	b.forget()
	b.images = map[string]api.Image{}
	return b
}

// forget lets all names go but those of images.
func (b *book) forget() {
	maps.DeleteFunc(b.names, func(_, kind string) bool { return kind != "image" })
	if b.names == nil {
		b.names = map[string]string{}
	}
	b.tables, b.arenas, b.stores = map[string]*dict.Table{}, map[string]*arena.Arena{}, map[string]*trace.Store{}
}

// stands lets a name stand for something new.
func (b *book) stands(name, kind string) {
	delete(b.images, name)
	delete(b.tables, name)
	delete(b.arenas, name)
	delete(b.stores, name)
	b.names[name] = kind
}

func (b *book) say(format string, parts ...any) { fmt.Fprintf(&b.said, format+"\n", parts...) }

// tells says ok, or an error's number.
func (b *book) tells(e api.Errno, format string, parts ...any) {
	if e != api.OK {
		b.say("error %d", int(e))
		return
	}
	b.say(format, parts...)
}

// line does one.
func (b *book) line(line string) {
	if line == "" || strings.HasPrefix(line, "#") {
		return
	}
	x, is := tellLine(line)
	switch {
	case !is:
		b.say("error 7")
	case !b.has(x):
		b.say("error 9")
	default:
		b.do(x)
	}
}

// has is P21.3's second.
func (b *book) has(x told) bool {
	switch x.need {
	case "-":
		return true
	case "heap":
		return b.heap != nil
	case "vault":
		return b.vault != nil
	case "name":
		return b.names[x.names[0]] != ""
	}
	return b.names[x.names[0]] == x.need
}

// at tells the address of a field, and whether there is such an answer.
func (b *book) at(x told, i int) (uint64, bool) {
	if x.refs[i] == 0 {
		return x.far[i], true
	}
	if x.refs[i] > uint64(len(b.answers)) {
		return 0, false
	}
	return b.answers[x.refs[i]-1] + x.far[i], true
}

func (b *book) do(x told) {
	switch x.need {
	case "-":
		b.any(x)
	case "heap":
		if !b.call(x) {
			b.onHeap(x)
		}
	case "image", "name":
		b.onName(x)
	case "table":
		b.onTable(x)
	case "arena":
		b.onArena(x)
	case "objects":
		b.onStore(x)
	case "vault":
		b.onVault(x)
	}
}

// call does a line of chapter 12, by the heap's own calls.
func (b *book) call(x told) bool {
	v, e, words := uint64(0), api.OK, ""
	p, is := uint64(0), true
	if len(x.refs) > 0 {
		p, is = b.at(x, 0)
	}
	switch {
	case !is && x.need == "heap":
		e = api.EINVAL
	case x.word == "malloc":
		v, e = b.heap.Malloc(x.n[0], x.not)
	case x.word == "calloc":
		v, e = b.heap.Calloc(x.n[0], x.n[1], x.not)
	case x.word == "aligned":
		v, e = b.heap.AlignedAlloc(x.n[0], x.n[1], x.not)
	case x.word == "realloc":
		v, e = b.heap.Realloc(p, x.n[0], x.not)
	case x.word == "free":
		e = b.heap.Free(p)
	case x.word == "usable":
		v, e = b.heap.UsableSize(p)
	case x.word == "load":
		one, f := b.heap.Load(p)
		v, e = uint64(one), f
	case x.word == "loadword":
		v, e = b.heap.LoadWord(p)
	case x.word == "store":
		e = b.heap.Store(p, byte(x.n[0]))
	case x.word == "storeword":
		e = b.heap.StoreWord(p, x.n[0])
	case x.word == "read" && x.n[0] > 65536, x.word == "write" && len(x.data[0]) > 65536:
		e = api.ELIMIT
	case x.word == "read":
		data, f := b.heap.Read(p, x.n[0])
		e, words = f, " "+hexWord(data)
	case x.word == "write":
		e = b.heap.Write(p, x.data[0])
	case x.word == "trim":
		v = uint64(b.heap.Trim())
	case x.word == "stats":
		words = " " + figures(b.heap.Stats())
	default:
		return false
	}
	if slices.Contains([]string{"malloc", "calloc", "aligned", "realloc", "usable", "load", "loadword", "trim"}, x.word) {
		words = fmt.Sprintf(" %d", v)
	}
	b.answers = append(b.answers, v)
	b.tells(e, "ok%s", words)
	return true
}

func hexWord(data []byte) string {
	if len(data) == 0 {
		return "-"
	}
	return hex.EncodeToString(data)
}

func figures(s api.Stats) string { return fmt.Sprintf("%d %d %d %d", s.H, s.L, s.Blocks, s.FreePages) }

func yesNo(is bool) string { return map[bool]string{true: "yes", false: "no"}[is] }

// whole is a number for a call that takes an int.
func whole(n uint64) int {
	if n > math.MaxInt64 {
		return math.MaxInt64
	}
	return int(n)
}

func (b *book) any(x told) {
	switch x.word {
	case "heap":
		h, e := malloc.New(api.Config{Base: x.n[0], Limit: whole(x.n[1]), Order: whole(x.n[2])})
		if e == api.OK {
			b.heap, b.answers, b.names, b.images = h, nil, nil, map[string]api.Image{}
			b.forget()
		}
		b.tells(e, "ok")
	case "vault":
		v, e := vault.New(api.Config{Base: x.n[0], Limit: whole(x.n[1]), Order: whole(x.n[2])})
		if e == api.OK {
			b.vault = v
		}
		b.tells(e, "ok")
	case "names":
		for _, name := range slices.Sorted(maps.Keys(b.names)) {
			b.say("%s %s", name, b.names[name])
		}
	case "clear":
		b.names, b.images = nil, map[string]api.Image{}
		b.forget()
		b.say("ok")
	}
}

func (b *book) onHeap(x told) {
	c, live := b.heap.Config(), b.heap.Live()
	regions := b.heap.Image().Regions
	switch x.word {
	case "live":
		for _, one := range live {
			b.say("%d %d", one.P, one.Size)
		}
	case "pages":
		b.said.WriteString(report.Pages(b.heap.Image()))
	case "sizes":
		b.said.WriteString(report.Sizes(live))
	case "freelists":
		b.say("%s", strings.Trim(fmt.Sprint(report.Free(b.heap.Image())), "[]"))
	case "waste":
		b.say("%d", report.Waste(b.heap.Image(), x.n[0]))
	case "stuck":
		b.say("%s", yesNo(oracle.Stuck(c, regions, live, x.n[0], x.not)))
	case "nofit":
		b.say("%s", yesNo(oracle.NoFit(c, regions, live, x.n[0])))
	default:
		b.tells(b.begins(x), "ok")
	}
}

// begins makes something that gets a name.
func (b *book) begins(x told) api.Errno {
	name := x.names[0]
	switch x.word {
	case "save":
		b.stands(name, "image")
		b.images[name] = image.Save(b.heap)
	case "table":
		one, e := dict.New(b.heap, x.not)
		if e != api.OK {
			return e
		}
		b.stands(name, "table")
		b.tables[name] = one
	case "arena":
		one, e := arena.New(b.heap, x.n[0])
		if e != api.OK {
			return e
		}
		b.stands(name, "arena")
		b.arenas[name] = one
	case "objects":
		b.stands(name, "objects")
		b.stores[name] = trace.New(b.heap)
	}
	return api.OK
}

func (b *book) onName(x told) {
	name := x.names[0]
	switch x.word {
	case "restore":
		h, e := image.Load(b.images[name])
		if e == api.OK {
			b.heap, b.answers = h, nil
			b.forget()
		}
		b.tells(e, "ok")
	case "check":
		rule, at := walk.Check(b.images[name])
		b.say("%d %d", rule, at)
	case "drop":
		if one := b.tables[name]; one != nil {
			one.Drop()
		}
		if one := b.arenas[name]; one != nil {
			one.Reset()
		}
		b.stands(name, "")
		delete(b.names, name)
		b.say("ok")
	}
}

func (b *book) onTable(x told) {
	one := b.tables[x.names[0]]
	switch x.word {
	case "set":
		b.tells(one.Set(x.data[0], x.data[1], x.not), "ok")
	case "get":
		value, is := one.Get(x.data[0])
		b.say("%s", map[bool]string{true: hexWord(value), false: "none"}[is])
	case "del":
		b.say("%s", yesNo(one.Delete(x.data[0])))
	case "keys":
		for key, value := range one.All() {
			b.say("%s %s", hexWord(key), hexWord(value))
		}
	}
}

func (b *book) onArena(x told) {
	one := b.arenas[x.names[0]]
	switch x.word {
	case "take":
		p, e := one.Alloc(x.n[0], x.n[1], x.not)
		b.tells(e, "%d", p)
	case "mark":
		b.say("%d", one.Mark())
	case "release":
		b.tells(one.Release(whole(x.n[0])), "ok")
	}
}

func (b *book) onStore(x told) {
	one := b.stores[x.names[0]]
	var list []uint64
	for i := range x.refs {
		p, is := b.at(x, i)
		if !is {
			b.say("error 1")
			return
		}
		list = append(list, p)
	}
	switch x.word {
	case "make":
		p, e := one.Make(whole(x.n[0]), whole(x.n[1]), x.not)
		b.tells(e, "%d", p)
	case "put":
		b.tells(one.Put(list[0], whole(x.n[0]), list[1]), "ok")
	case "word":
		v, e := one.Get(list[0], whole(x.n[0]))
		b.tells(e, "%d", v)
	case "root":
		b.tells(one.Root(x.names[1], list[0]), "ok")
	case "unroot":
		b.tells(one.Unroot(x.names[1]), "ok")
	case "collect":
		s := one.Collect()
		text := fmt.Sprintf("%d %d", s.Freed, s.Bytes)
		for _, p := range s.Due {
			text += " " + strconv.FormatUint(p, 10)
		}
		b.say("%s", text)
	}
}

func (b *book) onVault(x told) {
	switch x.word {
	case "vmalloc":
		handle, e := b.vault.Malloc(x.n[0], x.not)
		b.tells(e, "%d", handle)
	case "vfree":
		b.tells(b.vault.Free(whole(x.n[0])), "ok")
	case "pin":
		p, e := b.vault.Pin(whole(x.n[0]))
		b.tells(e, "%d", p)
	case "unpin":
		b.tells(b.vault.Unpin(whole(x.n[0])), "ok")
	case "compact":
		b.say("%d", b.vault.Compact())
	case "vwrite":
		b.tells(b.vault.Write(whole(x.n[0]), x.n[1], x.data[0]), "ok")
	case "vread":
		data, e := b.vault.Read(whole(x.n[0]), x.n[1], x.n[2])
		b.tells(e, "%s", hexWord(data))
	case "vstats":
		b.say("%s", figures(b.vault.Stats()))
	}
}
