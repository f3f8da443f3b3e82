package shell

import (
	"strconv"

	"croft/api"
	"croft/vault"
)

func (s *session) newVault(f fields) error {
	v, e := vault.New(configOf(f))
	if e == api.OK {
		s.vault = v
	}
	return s.answer(e, okay)
}

func (s *session) vaultMalloc(f fields) error {
	handle, e := s.vault.Malloc(f.numbers[0], f.deny)
	return s.answer(e, strconv.Itoa(handle))
}

func (s *session) vaultFree(f fields) error {
	return s.answer(s.vault.Free(intOf(f.numbers[0])), okay)
}

func (s *session) pin(f fields) error {
	p, e := s.vault.Pin(intOf(f.numbers[0]))
	return s.answer(e, number(p))
}

func (s *session) unpin(f fields) error {
	return s.answer(s.vault.Unpin(intOf(f.numbers[0])), okay)
}

func (s *session) compact(fields) error {
	return s.answer(api.OK, strconv.Itoa(s.vault.Compact()))
}

func (s *session) vaultWrite(f fields) error {
	return s.answer(s.vault.Write(intOf(f.numbers[0]), f.numbers[1], f.data[0]), okay)
}

func (s *session) vaultRead(f fields) error {
	data, e := s.vault.Read(intOf(f.numbers[0]), f.numbers[1], f.numbers[2])
	return s.answer(e, hexOf(data))
}

func (s *session) vaultStats(fields) error {
	return s.answer(api.OK, statsOf(s.vault.Stats())...)
}
