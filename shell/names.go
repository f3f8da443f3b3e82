package shell

import (
	"maps"
	"slices"
	"strconv"

	"croft/api"
	"croft/arena"
	"croft/dict"
	"croft/image"
	"croft/trace"
	"croft/walk"
)

// thing is what a name stands for: of its fields the one of its kind is there.
type thing struct {
	kind  string
	image api.Image
	table *dict.Table
	arena *arena.Arena
	store *trace.Store
}

// enter lets a line's first name stand for a new thing, and for that alone, if there is one.
func (s *session) enter(f fields, it thing, e api.Errno) error {
	if e == api.OK {
		s.names[f.names[0]] = it
	}
	return s.answer(e, okay)
}

func (s *session) save(f fields) error {
	return s.enter(f, thing{kind: anImage, image: image.Save(s.heap)}, api.OK)
}

// restore keeps no name of what stood on the heap that goes.
func (s *session) restore(f fields) error {
	h, e := image.Load(f.it.image)
	if e != api.OK {
		return e
	}
	s.heap, s.answers = h, nil
	maps.DeleteFunc(s.names, func(_ string, it thing) bool { return it.kind != anImage })
	return s.answer(api.OK, okay)
}

func (s *session) check(f fields) error {
	rule, at := walk.Check(f.it.image)
	return s.answer(api.OK, strconv.Itoa(rule), strconv.Itoa(at))
}

func (s *session) drop(f fields) error {
	switch f.it.kind {
	case aTable:
		f.it.table.Drop()
	case anArena:
		f.it.arena.Reset()
	}
	delete(s.names, f.names[0])
	return s.answer(api.OK, okay)
}

func (s *session) allNames(fields) error {
	for _, name := range slices.Sorted(maps.Keys(s.names)) {
		s.say(name, s.names[name].kind)
	}
	return nil
}

func (s *session) clearNames(fields) error {
	clear(s.names)
	return s.answer(api.OK, okay)
}
