package shell_test

import (
	"fmt"
	"strings"
	"testing"
)

// P21.4: what each line of chapter 12 says: ok, and what its call tells.
func TestCalls(t *testing.T) {
	wants(t, "heap 65536 4 1|malloc 17|malloc 17 !|malloc 5000 !|malloc 5000|malloc 8193", "ok|ok 65536|ok 65568|error 2|ok 73728|error 3")
	wants(t, "heap 65536 4 1|calloc 3 16|calloc 3 16 !|calloc 2 4096 !|calloc 2 4096|calloc 0 9|load $5+15", "ok|ok 65536|ok 65600|error 2|ok 73728|ok 69632|ok 0")
	wants(t, "heap 65536 4 1|aligned 64 1|aligned 64 1 !|aligned 8192 1 !|aligned 8192 1|aligned 0 1|aligned 3 1", "ok|ok 65536|ok 65600|error 2|ok 73728|error 1|error 1")
	wants(t, "heap 65536 4 1|realloc 0 9|storeword $1 258|realloc $1 16|realloc $1 40 !|realloc $4 8192 !|realloc $4 8192|loadword $6|realloc $1 8", "ok|ok 65536|ok|ok 65536|ok 69632|error 2|ok 73728|ok 258|error 1")
	wants(t, "heap 65536 4 1|malloc 9|free $1+1|free $1|free $1|free 0|free 65536", "ok|ok 65536|error 1|ok|error 1|ok|error 1")
	wants(t, "heap 65536 4 1|malloc 9|malloc 4097|usable $1|usable $2|usable $2+4096|usable 0", "ok|ok 65536|ok 73728|ok 16|ok 8192|error 1|error 1")
	wants(t, "heap 65536 4 1|calloc 1 9|store $1 7|store $1+15 511|store $1+16 1|load $1|load $1+15|load $1+16|loadword $1|loadword $1+8|loadword $1+9",
		"ok|ok 65536|ok|ok|error 4|ok 7|ok 255|error 4|ok 7|ok 18374686479671623680|error 4")
	wants(t, "heap 65536 4 1|calloc 1 9|storeword $1+3 18446744073709551615|storeword $1+9 1|read $1 16|read $1+16 0|read $1 17|read 7 0|read 7 1",
		"ok|ok 65536|ok|error 4|ok 000000ffffffffffffffff0000000000|ok -|error 4|ok -|error 4")
	wants(t, "heap 65536 4 1|calloc 1 9|write $1+1 0a0bff|write $1+14 0102|write $1+15 0102|write 5 -|write 5 00|read $1 16", "ok|ok 65536|ok|ok|error 4|ok|error 4|ok 000a0bff000000000000000000000102")
	wants(t, "heap 65536 4 1|trim|malloc 8192|malloc 8192|malloc 1|free $3|trim|free $4|trim|free $2|trim|trim", "ok|ok 0|ok 65536|ok 73728|ok 81920|ok|ok 0|ok|ok 2|ok|ok 1|ok 0")
	wants(t, "heap 65536 4 1|stats|malloc 16|stats|malloc 8192|stats|free $2|stats", "ok|ok 0 0 0 0|ok 65536|ok 8192 16 1 1|ok 73728|ok 16384 8208 2 1|ok|ok 16384 8192 1 2")
}

// P21.4: each line that has a form is one more answer, an error too; one that has none is no answer, nor are other lines.
func TestAnswers(t *testing.T) {
	const ahead = "heap 65536 4 1|malloc 16|malloc 9999|x|malloc|table t|live|malloc 01|free 1|names|#|| |vmalloc 1|trim|malloc 32|usable $%d"
	for ref, want := range map[int]string{1: "ok 16", 2: "error 1", 3: "error 1", 4: "error 1", 5: "ok 32", 6: "error 1", 7: "error 1"} {
		ends(t, fmt.Sprintf(ahead, ref), want)
	}
	// an error's answer tells 0: so does one of a call that tells no number
	wants(t, "heap 65536 4 1|malloc 9999|free $1|realloc $1 16|usable $1+65536|realloc $2 16|store $1+65536 7|load $6+65536|load $4+65520", "ok|error 3|ok|ok 65536|ok 16|ok 65552|ok|ok 7|ok 7")
	wants(t, "heap 65536 4 1|calloc 1 16|read $1 8|stats|write $1 41|free $2|free $3|free $4|load $2+65536|load $3+65536|load $4+65536", "ok|ok 65536|ok "+
		hexWord(make([]byte, 8))+"|ok 8192 16 1 1|ok|ok|ok|ok|ok 65|ok 65|ok 65")
	// what tells a number is an address as any
	wants(t, "heap 65536 4 1|malloc 16|storeword $1 65530|loadword $1|load $3+6|store $4+65286 3|load $1|usable $1|load $7+65520", "ok|ok 65536|ok|ok 65530|ok 250|ok|ok 3|ok 16|ok 3")
}

// P21.4: a `$` beyond the answers is an answer, with an error, too: the next line's own number is beyond.
func TestOwnNumber(t *testing.T) {
	wants(t, "heap 65536 4 1|free $1|free $1|free $3|free $3|malloc 1|free $5|free $6|free $7", "ok|error 1|ok|error 1|ok|ok 65536|ok|ok|ok")
	for _, line := range []string{"usable $%d", "load $%d", "loadword $%d", "store $%d 1", "storeword $%d 1", "read $%d 1", "read $%d 0", "write $%d 00", "write $%d -", "realloc $%d 1", "realloc $%d 1 !", "free $%d"} {
		for n := 1; n < 5; n++ {
			ends(t, "heap 65536 4 1"+strings.Repeat("|trim", n-1)+"|"+fmt.Sprintf(line, n), "error 1")
			ends(t, "heap 65536 4 1"+strings.Repeat("|trim", n-1)+"|"+fmt.Sprintf(line, 4096), "error 1")
		}
	}
}

// P21.4, P21.5: answers go with the heap: behind heap and restore `$` begins anew; behind a heap that is refused, and behind what is no call, it does not.
func TestAnswersGo(t *testing.T) {
	const ahead = "heap 65536 4 1|malloc 16|malloc 32|save i"
	for line, p := range map[string]string{"heap 65536 4 1": "65536", "restore i": "73728"} {
		behind := "|usable $1|malloc 64|usable $1|usable $2|usable $9"
		wants(t, ahead+"|"+line+behind, "ok|ok 65536|ok 69632|ok|ok|error 1|ok "+p+"|error 1|ok 64|error 1")
		wants(t, ahead+"|"+line+"|"+line+behind, "ok|ok 65536|ok 69632|ok|ok|ok|error 1|ok "+p+"|error 1|ok 64|error 1")
	}
	for _, line := range []string{"heap 0 4 1", "heap 65536 65 1", "heap 65536", "restore x", "restore", "vault 65536 1 1", "clear", "drop i", "save i", "check i"} {
		ends(t, ahead+"|"+line+"|usable $2", "ok 32")
		ends(t, ahead+"|"+line+"|usable $3", "error 1")
	}
}

// P21.4: as many answers as a text can have.
func TestManyAnswers(t *testing.T) {
	text := "heap 65536 4 1" + strings.Repeat("|trim", 996) + "|malloc 16|usable $997|load $999"
	ends(t, text, "error 1")
	ends(t, strings.TrimSuffix(text, "|load $999"), "ok 16")
	text = "heap 65536 4 1|malloc 16" + strings.Repeat("|free 1", 996) + "|usable $1|usable $997"
	ends(t, text, "error 1")
	ends(t, strings.TrimSuffix(text, "|usable $997"), "ok 16")
	ends(t, "heap 65536 4 1"+strings.Repeat("|malloc 16", 512)+"|heap 65536 4 1|malloc 32"+strings.Repeat("|malloc 16", 484)+"|usable $1", "ok 32")
}

// P21.3, P21.4: a read of more than MaxData bytes is refused by its call, and is an answer; so is a write.
func TestDataLimit(t *testing.T) {
	const ahead = "heap 1048576 1 8|calloc 1 200000"
	for _, n := range []int{65535, 65536} {
		data := strings.Repeat("5a", n)
		wants(t, ahead+fmt.Sprintf("|write $1+9 %s|read $1+9 %d|load $1+%d|load $1+%d", data, n, n+8, n+9), "ok|ok 1048576|ok|ok "+data+"|ok 90|ok 0")
	}
	for _, n := range []int{65537, 65538, 200000} {
		wants(t, ahead+fmt.Sprintf("|read $1 %d|write $1 %s|read $1 2|free $2|free $3|free $5|free $7|free $9", n, strings.Repeat("5a", n)), "ok|ok 1048576|error 6|error 6|ok 0000|ok|ok|ok|ok|error 1")
		wants(t, "write $1 "+strings.Repeat("5a", n), "error 9")
		wants(t, "write 00 "+strings.Repeat("5a", n), "error 7")
		wants(t, "write 0 "+strings.Repeat("5a", n)+" !", "error 7")
	}
}
