package script

import "croft/api"

// The marks of fields.
const (
	refMark  = "$"
	plusMark = "+"
	denyMark = "!"
	noData   = "-"
	digits   = "0123456789abcdef" // of Data
)

// lineForm is how an Op's line looks: its word, and which fields stand behind it. All lines have their fields in this order.
type lineForm struct {
	word                      string
	op                        int
	address, a, b, data, deny bool
}

var lineForms = [...]lineForm{
	{word: "malloc", op: api.OpMalloc, a: true, deny: true},
	{word: "calloc", op: api.OpCalloc, a: true, b: true, deny: true},
	{word: "aligned", op: api.OpAligned, a: true, b: true, deny: true},
	{word: "realloc", op: api.OpRealloc, address: true, a: true, deny: true},
	{word: "free", op: api.OpFree, address: true},
	{word: "usable", op: api.OpUsable, address: true},
	{word: "load", op: api.OpLoad, address: true},
	{word: "store", op: api.OpStore, address: true, a: true},
	{word: "loadword", op: api.OpLoadWord, address: true},
	{word: "storeword", op: api.OpStoreWord, address: true, a: true},
	{word: "read", op: api.OpRead, address: true, a: true},
	{word: "write", op: api.OpWrite, address: true, data: true},
	{word: "trim", op: api.OpTrim},
	{word: "stats", op: api.OpStats},
}

// formOfWord tells the form of a line that begins with a word, if there is one.
func formOfWord(word string) (lineForm, bool) {
	for _, f := range lineForms {
		if f.word == word {
			return f, true
		}
	}
	return lineForm{}, false
}

// formOfOp tells the form of an Op's line, if there is one.
func formOfOp(op int) (lineForm, bool) {
	for _, f := range lineForms {
		if f.op == op {
			return f, true
		}
	}
	return lineForm{}, false
}
