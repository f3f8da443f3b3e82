package script_test

import (
	"encoding/hex"
	"fmt"
	"math/big"
	"regexp"
	"strconv"
	"strings"

	"croft/api"
	"croft/malloc"
)

// asked does a call by the chapter's words, on a heap's own calls.
func asked(h *malloc.Heap, c api.Call, answers []api.Answer) api.Answer {
	sum := new(big.Int).SetUint64(c.P)
	if c.Ref != 0 {
		if c.Ref < 1 || len(answers) < c.Ref {
			return api.Answer{E: api.EINVAL}
		}
		if a := answers[c.Ref-1]; a.E == api.OK {
			sum.Add(sum, new(big.Int).SetUint64(a.V))
		}
	}
	p := sum.Mod(sum, new(big.Int).Lsh(big.NewInt(1), 64)).Uint64()
	if c.Op < api.OpLoad || c.Op > api.OpWrite {
		return askedBlocks(h, c, p)
	}
	return askedBytes(h, c, p)
}

// askedBlocks does one of the calls that tell of blocks.
func askedBlocks(h *malloc.Heap, c api.Call, p uint64) (a api.Answer) {
	switch c.Op {
	case api.OpMalloc:
		a.V, a.E = h.Malloc(c.A, c.Deny)
	case api.OpCalloc:
		a.V, a.E = h.Calloc(c.A, c.B, c.Deny)
	case api.OpAligned:
		a.V, a.E = h.AlignedAlloc(c.A, c.B, c.Deny)
	case api.OpRealloc:
		a.V, a.E = h.Realloc(p, c.A, c.Deny)
	case api.OpFree:
		a.E = h.Free(p)
	case api.OpUsable:
		a.V, a.E = h.UsableSize(p)
	case api.OpTrim:
		a.V = uint64(h.Trim())
	case api.OpStats:
		a.Stats = h.Stats()
	default:
		a.E = api.EINVAL
	}
	return a
}

// askedBytes does one of the calls on bytes.
func askedBytes(h *malloc.Heap, c api.Call, p uint64) (a api.Answer) {
	var b byte
	switch c.Op {
	case api.OpLoad:
		b, a.E = h.Load(p)
		a.V = uint64(b)
	case api.OpStore:
		a.E = h.Store(p, byte(c.A%256))
	case api.OpLoadWord:
		a.V, a.E = h.LoadWord(p)
	case api.OpStoreWord:
		a.E = h.StoreWord(p, c.A)
	case api.OpRead:
		if c.A > 65536 {
			return api.Answer{E: api.ELIMIT}
		}
		a.Data, a.E = h.Read(p, c.A)
	case api.OpWrite:
		if len(c.Data) > 65536 {
			return api.Answer{E: api.ELIMIT}
		}
		a.E = h.Write(p, c.Data)
	}
	return a
}

// place tells an address: a live block's, one in it, one close by, or any.
func place(h *malloc.Heap, row *numbers) uint64 {
	live := h.Live()
	if len(live) == 0 || row.below(9) == 0 {
		return oneOf(row, 0, 1, h.Config().Base, h.Config().Base+4096, row.word())
	}
	b := live[row.below(len(live))]
	return b.P + oneOf(row, 0, 0, 0, 0, 8, uint64(row.below(int(b.Size))), b.Size-1, b.Size)
}

// drawnCall tells a call for a heap, most often one that may be; its address by P, by Ref, or by both.
func drawnCall(h *malloc.Heap, answers []api.Answer, row *numbers) api.Call {
	r := uint64(8) << row.below(11+h.Config().Order)
	size := r - uint64(row.below(2)*row.below(int(r)))
	c := api.Call{Op: row.below(14) + 1, P: place(h, row), A: size, Deny: row.below(4) == 0}
	if row.below(3) == 0 {
		c.Op = oneOf(row, api.OpMalloc, api.OpRealloc, api.OpFree)
	}
	switch c.Op {
	case api.OpCalloc:
		c.A, c.B = uint64(row.below(4)), size/2
	case api.OpAligned:
		c.A, c.B = 1<<row.below(14), size
	case api.OpRead:
		c.A = min(size, 64)
	case api.OpWrite:
		c.Data = row.bytes(row.below(40))
	}
	if len(answers) > 0 && row.below(2) == 0 {
		c.Ref = row.below(len(answers)) + 1
		if a := answers[c.Ref-1]; a.E == api.OK {
			c.P = oneOf(row, 0, c.P-a.V) // the sum may wrap round
		}
	}
	if row.below(8) == 0 {
		return wrong(c, len(answers), row)
	}
	return c
}

// wrong spoils a call, or fills a field that it may not use.
func wrong(c api.Call, answers int, row *numbers) api.Call {
	switch row.below(7) {
	case 0:
		c.Op = oneOf(row, noOps()...)
	case 1:
		c.Ref = oneOf(row, answers+1, answers+2, -1, -c.Ref, 1<<63-1, -1<<63)
	case 2:
		c.P = row.word()
	case 3:
		c.A = oneOf(row, edges()...)
	case 4:
		c.B = oneOf(row, edges()...)
	case 5:
		c.Deny = !c.Deny
	case 6:
		c.Data = row.bytes(row.below(20))
	}
	return c
}

// form tells how a line of the chapter's table looks.
func form(row string) *regexp.Regexp {
	const number = `0|[1-9][0-9]*`
	row = strings.NewReplacer(
		" ADDRESS", ` (?:(?P<p>`+number+`)|[$](?P<ref>[1-9][0-9]*)(?:[+](?P<far>[1-9][0-9]*))?)`,
		" A", ` (?P<a>`+number+`)`,
		" B", ` (?P<b>`+number+`)`,
		" HEX", ` (?:-|(?P<data>(?:[0-9a-f][0-9a-f])+))`,
		" !", `(?P<deny> !)?`,
	).Replace(row)
	return regexp.MustCompile(`\A` + row + `\z`)
}

// forms are those of P12.4, each Op's at its number.
var forms = []*regexp.Regexp{
	api.OpMalloc:    form("malloc A !"),
	api.OpCalloc:    form("calloc A B !"),
	api.OpAligned:   form("aligned A B !"),
	api.OpRealloc:   form("realloc ADDRESS A !"),
	api.OpFree:      form("free ADDRESS"),
	api.OpUsable:    form("usable ADDRESS"),
	api.OpLoad:      form("load ADDRESS"),
	api.OpStore:     form("store ADDRESS A"),
	api.OpLoadWord:  form("loadword ADDRESS"),
	api.OpStoreWord: form("storeword ADDRESS A"),
	api.OpRead:      form("read ADDRESS A"),
	api.OpWrite:     form("write ADDRESS HEX"),
	api.OpTrim:      form("trim"),
	api.OpStats:     form("stats"),
}

// lineCall tells the call of a line by its form, if it is one.
func lineCall(line string) (api.Call, bool) {
	for op, f := range forms {
		if f == nil {
			continue
		}
		if parts := f.FindStringSubmatch(line); parts != nil {
			return fieldsCall(op, f.SubexpNames(), parts)
		}
	}
	return api.Call{}, false
}

// fieldsCall tells the call of an Op with such fields, if they are not too great.
func fieldsCall(op int, names, parts []string) (api.Call, bool) {
	c := api.Call{Op: op}
	for i, name := range names {
		part := parts[i]
		if name == "" || part == "" {
			continue
		}
		v, is := new(big.Int).SetString(part, 10)
		if strings.Contains("p far ref a b", name) && (!is || v.BitLen() > 64) {
			return api.Call{}, false
		}
		switch name {
		case "p", "far":
			c.P = v.Uint64()
		case "ref":
			if v.Cmp(big.NewInt(4096)) > 0 {
				return api.Call{}, false
			}
			c.Ref = int(v.Int64())
		case "a":
			c.A = v.Uint64()
		case "b":
			c.B = v.Uint64()
		case "data":
			c.Data, _ = hex.DecodeString(part)
		case "deny":
			c.Deny = true
		}
	}
	return c, len(c.Data) <= 65536
}

// textCalls is P12.5 of a text.
func textCalls(text string) ([]api.Call, int, api.Errno) {
	if len(text) > 1048576 {
		return nil, 0, api.ELIMIT
	}
	list := strings.SplitAfter(text, "\n")
	if list[len(list)-1] == "" {
		list = list[:len(list)-1]
	}
	if len(list) > 4096 {
		return nil, 4096, api.ELIMIT
	}
	var calls []api.Call
	for i, line := range list {
		c, is := lineCall(strings.TrimSuffix(line, "\n"))
		if !is {
			return nil, i, api.EFORM
		}
		calls = append(calls, c)
	}
	return calls, 0, api.OK
}

// callLine tells the line of a call, as if all of its fields might stand in it; it ends as lines do.
func callLine(c api.Call) string {
	address := strconv.FormatUint(c.P, 10)
	if c.Ref != 0 {
		address = fmt.Sprintf("$%d", c.Ref)
		if c.P != 0 {
			address = fmt.Sprintf("$%d+%d", c.Ref, c.P)
		}
	}
	data := fmt.Sprintf("%x", c.Data)
	if data == "" {
		data = "-"
	}
	deny := ""
	if c.Deny {
		deny = " !"
	}
	switch c.Op {
	case api.OpMalloc:
		return fmt.Sprintf("malloc %d%s\n", c.A, deny)
	case api.OpCalloc:
		return fmt.Sprintf("calloc %d %d%s\n", c.A, c.B, deny)
	case api.OpAligned:
		return fmt.Sprintf("aligned %d %d%s\n", c.A, c.B, deny)
	case api.OpRealloc:
		return fmt.Sprintf("realloc %s %d%s\n", address, c.A, deny)
	case api.OpFree, api.OpUsable, api.OpLoad, api.OpLoadWord:
		return fmt.Sprintf("%s %s\n", opWord(c.Op), address)
	case api.OpStore, api.OpStoreWord, api.OpRead:
		return fmt.Sprintf("%s %s %d\n", opWord(c.Op), address, c.A)
	case api.OpWrite:
		return fmt.Sprintf("write %s %s\n", address, data)
	}
	return opWord(c.Op) + "\n"
}

// opWord tells the word of an Op; of none an empty one.
func opWord(op int) string {
	list := strings.Split(" malloc calloc aligned realloc free usable load store loadword storeword read write trim stats", " ")
	if op < 0 || op >= len(list) {
		return ""
	}
	return list[op]
}

// callsText is P12.6: a call can be told just if its line is a line, and that line's call is the call.
func callsText(calls []api.Call) (string, api.Errno) {
	if len(calls) > 4096 {
		return "", api.ELIMIT
	}
	var text strings.Builder
	for _, c := range calls {
		line := callLine(c)
		back, is := lineCall(strings.TrimSuffix(line, "\n"))
		if !is || !sameCall(back, c) {
			return "", api.EFORM
		}
		text.WriteString(line)
		if text.Len() > 1048576 {
			return "", api.EFORM
		}
	}
	return text.String(), api.OK
}
