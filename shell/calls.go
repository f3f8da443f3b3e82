package shell

import (
	"strconv"
	"strings"

	"croft/api"
	"croft/script"
)

// The lines of chapter 12 that the shell makes itself, or looks into.
const (
	mallocWord = "malloc"
	freeWord   = "free"
	writeWord  = "write"
)

// callOf tells the call of a line of chapter 12, if it is one. Where there are more bytes than Data may have script.Parse refuses, but the line has its form, and One is there to refuse them: so the bytes of a write are read here.
func callOf(line string) (api.Call, bool) {
	words := strings.Split(line, blank)
	if len(words) != 3 || words[0] != writeWord {
		return parse(line)
	}
	c, ok := parse(writeWord, words[1], noBytes)
	data, is := bytesOf(words[2])
	c.Data = data
	return c, ok && is
}

// parse tells the call of a line that script.Parse takes. No word has a byte 10.
func parse(words ...string) (api.Call, bool) {
	calls, _, e := script.Parse(strings.Join(words, blank))
	if e != api.OK || len(calls) != 1 {
		return api.Call{}, false
	}
	return calls[0], true
}

// call does a line of chapter 12. Of its answer just that is kept for which an ADDRESS may ask.
func (s *session) call(c api.Call) error {
	if s.heap == nil {
		return api.ESTATE
	}
	if len(s.answers) >= api.MaxCalls {
		return api.ELIMIT
	}
	a := script.One(s.heap, c, s.answers)
	s.answers = append(s.answers, api.Answer{E: a.E, V: a.V})
	return s.answer(a.E, wordsOf(c.Op, a)...)
}

// wordsOf tells what is said of a call's answer, if it is none of an error.
func wordsOf(op int, a api.Answer) []string {
	switch op {
	case api.OpFree, api.OpStore, api.OpStoreWord, api.OpWrite:
		return []string{okay}
	case api.OpRead:
		return []string{okay, hexOf(a.Data)}
	case api.OpStats:
		return append([]string{okay}, statsOf(a.Stats)...)
	}
	return []string{okay, number(a.V)}
}

func statsOf(s api.Stats) []string {
	return []string{number(s.H), number(s.L), strconv.Itoa(s.Blocks), strconv.Itoa(s.FreePages)}
}

func number(v uint64) string { return strconv.FormatUint(v, 10) }
