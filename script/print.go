package script

import (
	"strconv"
	"strings"

	"croft/api"
)

// Print tells a text of calls.
func Print(calls []api.Call) (string, api.Errno) {
	if len(calls) > api.MaxCalls {
		return "", api.ELIMIT
	}
	var text strings.Builder
	for _, c := range calls {
		form, ok := formOfOp(c.Op)
		if !ok || !form.tells(c) {
			return "", api.EFORM
		}
		text.WriteString(form.line(c))
		if text.Len() > api.MaxText {
			return "", api.EFORM
		}
	}
	return text.String(), api.OK
}

// tells says whether a line of this form tells all that the call holds.
func (f lineForm) tells(c api.Call) bool {
	return c.Ref >= 0 && c.Ref <= api.MaxCalls && len(c.Data) <= api.MaxData &&
		(f.address || c.Ref == 0 && c.P == 0) &&
		(f.a || c.A == 0) &&
		(f.b || c.B == 0) &&
		(f.data || len(c.Data) == 0) &&
		(f.deny || !c.Deny)
}

// line tells a call that it can tell, with the end of the line.
func (f lineForm) line(c api.Call) string {
	words := []string{f.word}
	if f.address {
		words = append(words, addressWord(c.Ref, c.P))
	}
	if f.a {
		words = append(words, numberWord(c.A))
	}
	if f.b {
		words = append(words, numberWord(c.B))
	}
	if f.data {
		words = append(words, dataWord(c.Data))
	}
	if c.Deny {
		words = append(words, denyMark)
	}
	return strings.Join(words, " ") + "\n"
}

func numberWord(v uint64) string { return strconv.FormatUint(v, 10) }

func addressWord(ref int, p uint64) string {
	if ref == 0 {
		return numberWord(p)
	}
	word := refMark + strconv.Itoa(ref)
	if p > 0 {
		word += plusMark + numberWord(p)
	}
	return word
}

func dataWord(data []byte) string {
	if len(data) == 0 {
		return noData
	}
	var word strings.Builder
	for _, b := range data {
		word.WriteByte(digits[b>>4])
		word.WriteByte(digits[b&15])
	}
	return word.String()
}
