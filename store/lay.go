package store

import (
	"strings"

	"scrivener/api"
	"scrivener/digest"
)

// orNone is the store; where there is none, one in doubt that has nothing: Open gives none beside an error, and no call on that may panic.
func (s *Store) orNone() *Store {
	if s == nil {
		return &Store{doubt: true}
	}
	return s
}

// lay lets entries be there, on the device and in memory, unless they are refused. In memory nothing is changed ahead of the last flush, so that a store in doubt says what it said.
func (s *Store) lay(l []string) (errno api.Errno) {
	defer func() { s.doubt = errno == api.ErrDead }()
	if e := s.refusal(l); e != api.OK {
		return e
	}
	text := textOf(l)
	if e := layData(s.device, s.taken, text); e != api.OK {
		return e
	}
	next := head{number: s.number + 1, count: len(s.entries) + len(l), taken: s.taken + len(text)}
	if e := layHead(s.device, next); e != api.OK {
		return e
	}
	s.number = next.number
	s.take(l)
	return api.OK
}

// take lets entries be there, in memory.
func (s *Store) take(l []string) {
	for _, entry := range l {
		// A copy, since a piece of a longer text would keep all of that.
		s.entries = append(s.entries, strings.Clone(entry))
		s.taken += lengthSize + len(entry)
		s.tree.Add(digest.Leaf(entry))
	}
}

// refusal is why entries are not taken, if so; nothing is written then.
func (s *Store) refusal(l []string) api.Errno {
	switch {
	case s.device.Dead():
		return api.ErrDead
	case len(l) == 0 || len(l) > api.MaxAppend:
		return api.ErrStoreMany
	}
	bytes := 0
	for _, entry := range l {
		if len(entry) > api.MaxEntry {
			return api.ErrStoreLong
		}
		bytes += lengthSize + len(entry)
	}
	if bytes > s.Free() || s.number == mostNumber {
		return api.ErrStoreFull
	}
	return api.OK
}
