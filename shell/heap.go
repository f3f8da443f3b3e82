package shell

import (
	"strconv"

	"croft/api"
	"croft/image"
	"croft/malloc"
	"croft/oracle"
	"croft/report"
)

// What lines say that have nothing to tell, or one of two things.
const (
	okay = "ok"
	yes  = "yes"
	no   = "no"
)

// configOf tells the Config of a line.
func configOf(f fields) api.Config {
	return api.Config{Base: f.numbers[0], Limit: intOf(f.numbers[1]), Order: intOf(f.numbers[2])}
}

func (s *session) newHeap(f fields) error {
	h, e := malloc.New(configOf(f))
	if e != api.OK {
		return e
	}
	s.heap, s.answers = h, nil
	clear(s.names)
	return s.answer(api.OK, okay)
}

func (s *session) live(fields) error {
	for _, b := range s.heap.Live() {
		s.say(number(b.P), number(b.Size))
	}
	return nil
}

func (s *session) pages(fields) error {
	s.said.WriteString(report.Pages(image.Save(s.heap)))
	return nil
}

func (s *session) sizes(fields) error {
	s.said.WriteString(report.Sizes(s.heap.Live()))
	return nil
}

func (s *session) freeLists(fields) error {
	var counts []string
	for _, count := range report.Free(image.Save(s.heap)) {
		counts = append(counts, strconv.Itoa(count))
	}
	return s.answer(api.OK, counts...)
}

func (s *session) waste(f fields) error {
	return s.answer(api.OK, strconv.Itoa(report.Waste(image.Save(s.heap), f.numbers[0])))
}

func (s *session) stuck(f fields) error {
	return s.answer(api.OK, yesOrNo(oracle.Stuck(s.heap.Config(), s.regions(), s.heap.Live(), f.numbers[0], f.deny)))
}

func (s *session) noFit(f fields) error {
	return s.answer(api.OK, yesOrNo(oracle.NoFit(s.heap.Config(), s.regions(), s.heap.Live(), f.numbers[0])))
}

// regions tells how many the heap has.
func (s *session) regions() int {
	return int(s.heap.Stats().H / (api.PageSize << s.heap.Config().Order))
}

func yesOrNo(is bool) string {
	if is {
		return yes
	}
	return no
}
