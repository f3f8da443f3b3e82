package shell_test

import (
	"fmt"
	"strings"
	"testing"
)

// P21.5: heap: a new heap of Base, Limit, Order.
func TestHeap(t *testing.T) {
	wants(t, "heap 65536 2 1|heap 1048576 1 0|malloc 4096|malloc 4096|stats", "ok|ok|ok 1048576|error 2|ok 4096 4096 1 0")
	wants(t, "heap 9223372036854767616 2 0|malloc 4096|malloc 4096|malloc 16|usable $2+4096", "ok|ok 9223372036854767616|ok 9223372036854771712|error 2|error 1")
	wants(t, "heap 1048576 4 8|malloc 1048576|malloc 1048577|stats|freelists|pages", "ok|ok 1048576|error 3|ok 1048576 1048576 1 0|0 0 0 0 0 0 0 0 0|8"+strings.Repeat("=", 255))
	wants(t, "heap 65536 2 1|malloc 16|heap 65536 2 1|live|free $1|load 65536|stats", "ok|ok 65536|ok|error 1|error 4|ok 0 0 0 0")
	wants(t, "heap 4096 64 0|heap 4096 65 0|heap 4096 64 4|heap 65536 64 4|heap 131072 64 5", "ok|error 1|error 1|ok|error 1")
}

// P21.5: live, pages, sizes, freelists, waste of heaps without blocks, and without regions.
func TestNothingToTell(t *testing.T) {
	wants(t, "heap 65536 2 1|live|pages|sizes|freelists|waste 16|waste 8192", "ok|0 0|0|0")
	wants(t, "heap 65536 2 1|malloc 1|free $1|live|pages|sizes|freelists|waste 16|waste 8192|waste 16384|waste 24|waste 0", "ok|ok 65536|ok|..|0 1|0|0|-1|-1|-1")
	wants(t, "heap 65536 2 0|freelists|malloc 1|free $1|freelists|trim|freelists", "ok|0|ok 65536|ok|1|ok 1|0")
}

// P21.5: what live, pages, sizes and freelists tell of a heap with blocks of all kinds.
func TestHeapTold(t *testing.T) {
	wants(t, "heap 65536 4 2|malloc 16384|malloc 4096|malloc 2048|malloc 2048|malloc 2048|malloc 8192|free $2|live|pages|sizes|freelists",
		"ok|ok 65536|ok 81920|ok 86016|ok 88064|ok 90112|ok 98304|ok|65536 16384|86016 2048|88064 2048|90112 2048|98304 8192|2===|.Hh.|1=..|2048 3 6144|8192 1 8192|16384 1 16384|2 1 0")
}

// P21.5: stuck and nofit, with `!` and without, at Limit and below, of sizes that are none.
func TestStuck(t *testing.T) {
	const one, full = "heap 65536 2 0|malloc 4096|", "heap 65536 1 0|malloc 4096|"
	wants(t, one+"stuck 16|stuck 16 !|nofit 16|stuck 4096|stuck 4096 !|nofit 4096", "ok|ok 65536|no|yes|yes|no|yes|yes")
	wants(t, full+"stuck 16|stuck 16 !|nofit 16|stuck 4096|stuck 4096 !|nofit 4096", "ok|ok 65536|yes|yes|yes|yes|yes|yes")
	for _, n := range []string{"0", "1", "8", "15", "17", "24", "4095", "8192", "18446744073709551615", "9223372036854775808"} {
		wants(t, full+"stuck "+n+"|stuck "+n+" !|nofit "+n, "ok|ok 65536|no|no|no")
	}
	wants(t, "heap 65536 1 0|stuck 16|stuck 16 !|nofit 16|malloc 16|stuck 16 !|stuck 32 !|nofit 32|stuck 32", "ok|no|yes|yes|ok 65536|no|yes|yes|yes")
}

// P21.5: an image is the heap's as it was: whatever is done behind, restore brings it back, and again.
func TestImages(t *testing.T) {
	const ahead = "heap 65536 4 1|calloc 1 64|store $1 7|save i|"
	wants(t, ahead+"store $1 9|free $1|malloc 8192|check i|restore i|load 65536|live|stats", "ok|ok 65536|ok|ok|ok|ok|ok 65536|0 0|ok|ok 7|65536 64|ok 8192 64 1 1")
	wants(t, ahead+"restore i|store 65536 9|free 65536|restore i|load 65536|malloc 64|restore i|malloc 64", "ok|ok 65536|ok|ok|ok|ok|ok|ok|ok 7|ok 65600|ok|ok 65600")
	wants(t, ahead+"malloc 8192|save j|restore i|live|restore j|live|restore i|live", "ok|ok 65536|ok|ok|ok 73728|ok|ok|65536 64|ok|65536 64|73728 8192|ok|65536 64")
	wants(t, "heap 65536 1 0|save i|heap 65536 1 0|restore i", "ok|ok|ok|error 9")
	wants(t, "heap 65536 1 0|save empty|malloc 4096|restore empty|stats|check empty", "ok|ok|ok 65536|ok|ok 0 0 0 0|0 0")
}

// P21.5: table, set, get, del, keys.
func TestTables(t *testing.T) {
	wants(t, "heap 65536 4 1|table t !|table t|table u !|set t 61 62|get t 61|set t 61 6364|get t 61|set t 61 -|get t 61|keys t", "ok|error 2|ok|ok|ok|62|ok|6364|ok|-|61 -")
	wants(t, "heap 65536 4 1|table t|get t -|del t -|set t - -|get t -|keys t|set t - 00|get t -|del t -|get t -|keys t", "ok|ok|none|no|ok|-|- -|ok|00|yes|none")
	wants(t, "heap 65536 4 1|table t|set t 7a 01|set t 61 02|set t 6d 03|keys t|del t 61|set t 61 04|set t 7a 0506|keys t", "ok|ok|ok|ok|ok|7a 01|61 02|6d 03|yes|ok|ok|7a 0506|6d 03|61 04")
	wants(t, "heap 65536 1 0|table t|malloc 2048|malloc 1024|set t 61 62 !|set t 62 "+strings.Repeat("00", 1000)+"|set t 62 "+strings.Repeat("00", 4057)+"|keys t",
		"ok|ok|error 2|error 2|ok|error 2|error 3|61 62")
	ends(t, "heap 65536 2 0|table t|malloc 4096|set t 61 "+strings.Repeat("00", 100)+" !", "error 2")
	ends(t, "heap 65536 3 0|table t|malloc 4096|set t 61 "+strings.Repeat("00", 100), "ok")
	big := strings.Repeat("5a", 65535)
	wants(t, "heap 1048576 4 8|table t|set t 61 "+big+"|get t 61|set t 6162 "+big+"|get t 6162|keys t|del t "+big, "ok|ok|ok|"+big+"|error 6|none|61 "+big+"|no")
}

// P21.5: arena, take, mark, release.
func TestArenas(t *testing.T) {
	wants(t, "heap 65536 2 1|arena a 0|arena a 8193|arena a 8192|arena a 100|take a 1 3|take a 8193 1|take a 1 1 !|take a 1 1|take a 8 8 !|take a 0 1 !|live",
		"ok|error 1|error 3|ok|ok|error 1|error 3|error 2|65536|65544|65552|65536 128")
	wants(t, "heap 65536 2 1|arena a 100|take a 10 1|mark a|take a 112 16|take a 200 64|mark a|release a 2|release a 7|live|release a 0|release a 1|release a 0|take a 1 1|live",
		"ok|ok|65536|0|65552|69632|1|error 9|error 9|65536 128|69632 256|ok|error 9|error 9|65546|65536 128")
}

// P21.5: objects, make, put, word, root, unroot, collect.
func TestStores(t *testing.T) {
	wants(t, "heap 65536 1 0|objects o|make o 0 0 !|make o 600 0|make o 1 8|make o 1 0|make o 0 3|put o 65536 0 65552|put o 65536 1 0|put o 65536 0 65537|put o 65552 0 65536|word o 65536 0|word o 65536 1|word o 1 0",
		"ok|ok|error 2|error 3|65536|65552|65568|ok|error 1|error 1|ok|65552|error 1|error 1")
	wants(t, "heap 65536 1 0|objects o|make o 1 8|make o 1 0|make o 0 3|put o 65536 0 65552|root o a 65536|root o a 7|collect o|collect o|live|unroot o b|unroot o a|unroot o a|collect o|live",
		"ok|ok|65536|65552|65568|ok|ok|error 1|1 16|0 0|65536 16|65552 16|error 1|ok|error 1|2 32")
	wants(t, "heap 65536 2 1|objects o|make o 100 0|make o 0 4097|make o 1 0|root o x 65536|collect o|live", "ok|ok|65536|73728|69632|ok|2 8208|65536 1024")
}

// P21.5: what collect says where nothing is due, however many go.
func TestCollect(t *testing.T) {
	wants(t, "heap 65536 2 1|objects o|collect o", "ok|ok|0 0")
	for n := range 40 {
		text := "heap 65536 2 1|objects o" + strings.Repeat("|make o 1 0", n) + "|collect o|live"
		ends(t, text, fmt.Sprintf("%d %d", n, 16*n))
	}
}

// P21.5: the vault's lines.
func TestVault(t *testing.T) {
	wants(t, "vault 65536 2 1|vmalloc 8193|vmalloc 1 !|vfree 0|vmalloc 4096|vmalloc 4096|vmalloc 4096|vwrite 3 0 05|vwrite 3 4096 01|vwrite 3 4096 -|vread 3 4095 2|vread 3 4096 0|vread 3 18446744073709551615 2|vfree 2|vmalloc 8192 !|pin 3|vread 3 0 1|pin 1|vstats",
		"ok|error 3|error 2|error 1|1|2|3|ok|error 4|ok|error 4|-|error 4|ok|4|77824|05|73728|16384 16384 3 0")
	wants(t, "vault 65536 2 1|vmalloc 4096|vmalloc 4096|vmalloc 4096|vfree 2|vfree 1|pin 3|pin 3|vfree 3|compact|unpin 3|unpin 3|unpin 3|compact|vstats|vfree 3|vfree 3|compact|vstats",
		"ok|1|2|3|ok|ok|73728|73728|error 9|0|ok|ok|error 9|1|8192 4096 1 1|ok|error 1|1|0 0 0 0")
	for _, line := range []string{"vault 0 1 1", "vault 65536 0 1", "vault 65536 1 9", "vault 65536 65 0", "vault 65536 1"} {
		want := "error 1"
		if !isLine(line) {
			want = "error 7"
		}
		refuses(t, all, line, "vread 1 0 9|pin 1|pin 2|vstats|vmalloc 1", want)
	}
	wants(t, "vault 65536 2 1|vmalloc 1|vault 65536 1 0|vstats|vread 1 0 0|vmalloc 8192|vmalloc 1", "ok|1|ok|0 0 0 0|error 1|error 3|1")
}

// P21.2, P21.5: the vault stays, whatever becomes of the heap and of names.
func TestVaultStays(t *testing.T) {
	const told = "vstats|vread 1 3 2|vread 2 0 0|unpin 2|unpin 2|vmalloc 16|pin 3"
	want := said(t, all+"|"+told)[len(said(t, all)):]
	for _, line := range []string{"heap 65536 1 0", "heap 1048576 4 1", "heap 0 0 0", "restore i", "clear", "drop t", "drop a", "trim", "malloc 9999", "collect o"} {
		first := said(t, all+"|"+line)
		if got := said(t, all+"|"+line+"|"+told)[len(first):]; strings.Join(got, "|") != strings.Join(want, "|") {
			t.Errorf("%s: %q, not %q", line, got, want)
		}
	}
}

// P21.2: the vault's heap and the shell's have nothing in common, though they lie at the same addresses.
func TestSameAddresses(t *testing.T) {
	wants(t, "heap 65536 1 0|vault 65536 1 0|calloc 1 16|vmalloc 16|vwrite 1 0 05|store $1 7|vread 1 0 1|vwrite 1 0 09|load $1|pin 1|free $1|vread 1 0 1|vstats|stats",
		"ok|ok|ok 65536|1|ok|ok|05|ok|ok 7|65536|ok|09|4096 16 1 0|ok 4096 0 0 1")
}
