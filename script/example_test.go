package script_test

import (
	"testing"

	"croft/api"
)

func values(list ...uint64) []api.Answer {
	var answers []api.Answer
	for _, v := range list {
		answers = append(answers, api.Answer{V: v})
	}
	return answers
}

// The first table.
func TestExamplePlay(t *testing.T) {
	for _, row := range []struct {
		text string
		want []api.Answer
	}{
		{"malloc 1|store $1 7|load $1|load $1+16", []api.Answer{{V: 65536}, {}, {V: 7}, {E: api.EFAULT}}},
		{"malloc 9000|free $1|usable $1|malloc 5000 !", []api.Answer{{E: api.ETOOBIG}, {}, {E: api.EINVAL}, {E: api.ENOMEM}}},
		{"free $1", []api.Answer{{E: api.EINVAL}}},
		{"calloc 2 8|write $1 0a0b|read $1+1 3", []api.Answer{{V: 65536}, {}, {Data: []byte{0x0b, 0, 0}}}},
	} {
		got := played(t, newHeap(t, example()), parsed(t, lines(row.text)))
		if !sameAnswers(got, row.want) {
			t.Errorf("%s: %+v, not %+v", row.text, got, row.want)
		}
	}
}

// The second table.
func TestExampleParse(t *testing.T) {
	refusesParse(t, "malloc 1\nmalloc 01", 1, api.EFORM)
	for _, text := range []string{"malloc  1", "free $0", "free $1+0", "trim !", "malloc 18446744073709551616"} {
		refusesParse(t, text, 0, api.EFORM)
	}
	wantsParse(t, "", nil, 0, api.OK)
}

// DOC.md's first six examples: the lines that are calls, on the heap that the line ahead of them makes.
func TestExamplesOfTheWhole(t *testing.T) {
	for _, row := range []struct {
		c    api.Config
		text string
		want []api.Answer
	}{
		{
			api.Config{Base: 65536, Limit: 2, Order: 1}, "malloc 0|malloc 17|malloc 16|malloc 4097|stats",
			append(values(65536, 69632, 65552, 73728), api.Answer{Stats: api.Stats{H: 16384, L: 8256, Blocks: 4, FreePages: 0}}),
		},
		{
			api.Config{Base: 65536, Limit: 1, Order: 1}, "malloc 16|malloc 4096|malloc 32|malloc 16",
			[]api.Answer{{V: 65536}, {V: 69632}, {E: api.ENOMEM}, {V: 65552}},
		},
		{
			api.Config{Base: 65536, Limit: 2, Order: 0}, "malloc 4096|malloc 4096 !|malloc 4096|stats",
			[]api.Answer{{V: 65536}, {E: api.ENOMEM}, {V: 69632}, {Stats: api.Stats{H: 8192, L: 8192, Blocks: 2}}},
		},
		{
			api.Config{Base: 65536, Limit: 1, Order: 1}, "malloc 8192|realloc $1 4096 !|malloc 4096 !|realloc $1 4097",
			[]api.Answer{{V: 65536}, {V: 65536}, {V: 69632}, {E: api.ENOMEM}},
		},
		{
			api.Config{Base: 65536, Limit: 1, Order: 0}, "calloc 4 4|storeword $1+8 258|read $1 16|free $1+8|free $1|free $1|trim|stats",
			[]api.Answer{
				{V: 65536}, {}, {Data: []byte{0, 0, 0, 0, 0, 0, 0, 0, 2, 1, 0, 0, 0, 0, 0, 0}},
				{E: api.EINVAL}, {}, {E: api.EINVAL}, {V: 1}, {},
			},
		},
		{
			api.Config{Base: 65536, Limit: 2, Order: 1}, "aligned 3 1|aligned 0 99999|aligned 8192 1|calloc 4294967296 4294967296|malloc 8193",
			[]api.Answer{{E: api.EINVAL}, {E: api.EINVAL}, {V: 65536}, {E: api.ETOOBIG}, {E: api.ETOOBIG}},
		},
	} {
		got := played(t, newHeap(t, row.c), parsed(t, lines(row.text)))
		if !sameAnswers(got, row.want) {
			t.Errorf("%s: %+v, not %+v", row.text, got, row.want)
		}
	}
}
