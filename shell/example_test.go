package shell_test

import (
	"strings"
	"testing"
)

// example asks for a row of a table, as the document writes it: the lines are parted by strokes with blanks around.
func example(t *testing.T, text, want string) {
	t.Helper()
	plain := func(text string) string { return strings.ReplaceAll(text, " | ", "|") }
	wants(t, plain(text), plain(want))
}

// The chapter's table.
func TestExamples(t *testing.T) {
	example(t, "heap 65536 2 1 | malloc 1 | store $1 7 | load $1 | stats", "ok | ok 65536 | ok | ok 7 | ok 8192 16 1 1")
	example(t, "live | heap 65536 2 9 | heap 65536 2 1 | malloc 5000 ! | usable $1", "error 9 | error 1 | ok | error 2 | error 1")
	example(t, "heap 65536 2 1 | malloc 17 | malloc 4097 | pages | sizes | freelists | waste 32 | stuck 16 | nofit 8192",
		"ok | ok 65536 | ok 73728 | b. | 1= | 32 1 32 | 8192 1 8192 | 1 0 | 501 | no | yes")
	example(t, "heap 65536 4 1 | table t | set t 61 7879 | get t 61 | get t 62 | keys t | del t 61 | names | drop t | names",
		"ok | ok | ok | 7879 | none | 61 7879 | yes | t table | ok")
	example(t, "heap 65536 2 1 | malloc 1 | save a | free $1 | live | restore a | live | check a", "ok | ok 65536 | ok | ok | ok | 65536 16 | 0 0")
	example(t, "malloc 1 | heap 65536 2 1 | free $2 | heap 1 | table T | drop x", "error 9 | ok | error 1 | error 7 | error 7 | error 9")
	example(t, "vault 65536 1 0 | vmalloc 16 | vmalloc 2048 | vwrite 1 3 0a0b | vread 1 3 2 | pin 1 | vstats", "ok | 1 | error 2 | ok | 0a0b | 65536 | 4096 16 1 0")
}

// DOC.md's ten examples of the whole.
func TestExamplesOfTheWhole(t *testing.T) {
	example(t, "heap 65536 2 1 | malloc 0 | malloc 17 | malloc 16 | malloc 4097 | stats", "ok | ok 65536 | ok 69632 | ok 65552 | ok 73728 | ok 16384 8256 4 0")
	example(t, "heap 65536 1 1 | malloc 16 | malloc 4096 | stuck 32 | malloc 32 | stuck 16 | malloc 16", "ok | ok 65536 | ok 69632 | yes | error 2 | no | ok 65552")
	example(t, "heap 65536 2 0 | malloc 4096 | malloc 4096 ! | nofit 4096 | malloc 4096 | stats", "ok | ok 65536 | error 2 | yes | ok 69632 | ok 8192 8192 2 0")
	example(t, "heap 65536 1 1 | malloc 8192 | realloc $1 4096 ! | malloc 4096 ! | realloc $1 4097", "ok | ok 65536 | ok 65536 | ok 69632 | error 2")
	example(t, "heap 65536 1 0 | calloc 4 4 | storeword $1+8 258 | read $1 16 | free $1+8 | free $1 | free $1 | trim | stats",
		"ok | ok 65536 | ok | ok 00000000000000000201000000000000 | error 1 | ok | error 1 | ok 1 | ok 0 0 0 0")
	example(t, "heap 65536 2 1 | aligned 3 1 | aligned 0 99999 | aligned 8192 1 | calloc 4294967296 4294967296 | malloc 8193",
		"ok | error 1 | error 1 | ok 65536 | error 3 | error 3")
	example(t, "heap 65536 2 1 | malloc 17 | malloc 4097 | pages | save a | free $2 | pages | restore a | pages | check a",
		"ok | ok 65536 | ok 73728 | b. | 1= | ok | ok | b. | .. | ok | b. | 1= | 0 0")
	example(t, "vault 65536 1 1 | vmalloc 16 | vmalloc 4096 | vfree 1 | vmalloc 8192 ! | vfree 2 | vmalloc 8192 ! | vstats",
		"ok | 1 | 2 | ok | error 2 | ok | 3 | 8192 8192 1 0")
	example(t, "heap 65536 4 0 | table t | set t 6b 76 | get t 6b | live | drop t | live | stats", "ok | ok | ok | 76 | 65536 64 | 65600 64 | ok | ok 4096 0 0 1")
	example(t, "heap 65536 4 1 | objects o | make o 1 0 | make o 1 0 | collect o | names", "ok | ok | 65536 | 65552 | 2 32 | o objects")
}
