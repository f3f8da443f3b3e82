package shell

import (
	"strconv"

	"croft/api"
	"croft/arena"
	"croft/dict"
	"croft/trace"
)

// noValue is said of a key that is not there: `-` is a value without bytes.
const noValue = "none"

func (s *session) newTable(f fields) error {
	t, e := dict.New(s.heap, f.deny)
	return s.enter(f, thing{kind: aTable, table: t}, e)
}

func (s *session) set(f fields) error {
	return s.answer(f.it.table.Set(f.data[0], f.data[1], f.deny), okay)
}

func (s *session) get(f fields) error {
	value, is := f.it.table.Get(f.data[0])
	if !is {
		return s.answer(api.OK, noValue)
	}
	return s.answer(api.OK, hexOf(value))
}

func (s *session) del(f fields) error {
	return s.answer(api.OK, yesOrNo(f.it.table.Delete(f.data[0])))
}

func (s *session) keys(f fields) error {
	for key, value := range f.it.table.All() {
		s.say(hexOf(key), hexOf(value))
	}
	return nil
}

func (s *session) newArena(f fields) error {
	a, e := arena.New(s.heap, f.numbers[0])
	return s.enter(f, thing{kind: anArena, arena: a}, e)
}

func (s *session) take(f fields) error {
	p, e := f.it.arena.Alloc(f.numbers[0], f.numbers[1], f.deny)
	return s.answer(e, number(p))
}

func (s *session) mark(f fields) error {
	return s.answer(api.OK, strconv.Itoa(f.it.arena.Mark()))
}

func (s *session) release(f fields) error {
	return s.answer(f.it.arena.Release(intOf(f.numbers[0])), okay)
}

func (s *session) newStore(f fields) error {
	return s.enter(f, thing{kind: aStore, store: trace.New(s.heap)}, api.OK)
}

func (s *session) makeObject(f fields) error {
	p, e := f.it.store.Make(intOf(f.numbers[0]), intOf(f.numbers[1]), f.deny)
	return s.answer(e, number(p))
}

func (s *session) put(f fields) error {
	return s.answer(f.it.store.Put(f.addresses[0], intOf(f.numbers[0]), f.addresses[1]), okay)
}

func (s *session) word(f fields) error {
	v, e := f.it.store.Get(f.addresses[0], intOf(f.numbers[0]))
	return s.answer(e, number(v))
}

// root's second name is one of the store's own.
func (s *session) root(f fields) error {
	return s.answer(f.it.store.Root(f.names[1], f.addresses[0]), okay)
}

func (s *session) unroot(f fields) error {
	return s.answer(f.it.store.Unroot(f.names[1]), okay)
}

func (s *session) collect(f fields) error {
	swept := f.it.store.Collect()
	words := []string{strconv.Itoa(swept.Freed), number(swept.Bytes)}
	for _, p := range swept.Due {
		words = append(words, number(p))
	}
	return s.answer(api.OK, words...)
}
