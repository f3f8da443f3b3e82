package script

import (
	"strconv"
	"strings"

	"croft/api"
)

// Parse tells the calls of a text; with an error the line.
func Parse(text string) (calls []api.Call, line int, e api.Errno) {
	if len(text) > api.MaxText {
		return nil, 0, api.ELIMIT
	}
	lines := linesOf(text)
	if len(lines) > api.MaxCalls {
		return nil, api.MaxCalls, api.ELIMIT
	}
	for number, one := range lines {
		c, ok := callOf(one)
		if !ok {
			return nil, number, api.EFORM
		}
		calls = append(calls, c)
	}
	return calls, 0, api.OK
}

// linesOf tells a text's lines. What stands behind the last end of one is a line only if it has a byte.
func linesOf(text string) []string {
	lines := cut(text, '\n')
	last := len(lines) - 1
	if lines[last] == "" {
		return lines[:last]
	}
	return lines
}

// cut tells what stands between those marks, ahead of the first and behind the last. Bytes that are no UTF-8 are ranged over one by one: they hide no mark.
func cut(text string, mark rune) []string {
	var parts []string
	from := 0
	for i, r := range text {
		if r == mark {
			parts = append(parts, text[from:i])
			from = i + 1
		}
	}
	return append(parts, text[from:])
}

// callOf tells the call of a line, if it is one.
func callOf(line string) (c api.Call, ok bool) {
	r := reader{words: cut(line, ' '), ok: true}
	form, ok := formOfWord(r.next())
	if !ok {
		return api.Call{}, false
	}
	c.Op = form.op
	if form.address {
		c.Ref, c.P = r.address()
	}
	if form.a {
		c.A = r.number()
	}
	if form.b {
		c.B = r.number()
	}
	if form.data {
		c.Data = r.data()
	}
	if form.deny {
		c.Deny = r.denied()
	}
	return c, r.ok && len(r.words) == 0
}

// reader takes a line's words off its front. It is ok as long as all were of the form that they were read as.
type reader struct {
	words []string
	ok    bool
}

// must keeps in mind what does not hold.
func (r *reader) must(holds bool) { r.ok = r.ok && holds }

// next tells the next word; where there is none, an empty one, which has no form.
func (r *reader) next() string {
	if len(r.words) == 0 {
		return ""
	}
	word := r.words[0]
	r.words = r.words[1:]
	return word
}

func (r *reader) number() uint64 { return r.numberIn(r.next()) }

// numberIn reads digits. A number has one word alone.
func (r *reader) numberIn(word string) uint64 {
	v, err := strconv.ParseUint(word, 10, 64)
	r.must(err == nil && numberWord(v) == word)
	return v
}

// address reads a number, or which answer, and how far behind it.
func (r *reader) address() (ref int, p uint64) {
	word, isRef := strings.CutPrefix(r.next(), refMark)
	if !isRef {
		return 0, r.numberIn(word)
	}
	number, far, isFar := strings.Cut(word, plusMark)
	if isFar {
		p = r.numberIn(far)
		r.must(p > 0)
	}
	answer := r.numberIn(number)
	r.must(answer >= 1 && answer <= api.MaxCalls)
	return int(answer), p
}

// data reads two digits a byte, or that there is none.
func (r *reader) data() []byte {
	word := r.next()
	if word == noData {
		return nil
	}
	count := len(word) / 2
	r.must(count > 0 && count <= api.MaxData && len(word)%2 == 0)
	if !r.ok {
		return nil
	}
	data := make([]byte, count)
	for i := range data {
		data[i] = r.digit(word[2*i])<<4 | r.digit(word[2*i+1])
	}
	return data
}

// digit tells one of Data's.
func (r *reader) digit(b byte) byte {
	v := strings.IndexByte(digits, b)
	r.must(v >= 0)
	return byte(v)
}

// denied reads a mark that may stand there.
func (r *reader) denied() bool {
	if len(r.words) == 0 {
		return false
	}
	r.must(r.next() == denyMark)
	return true
}
