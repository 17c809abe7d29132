package span

import (
	"scrivener/api"
	"scrivener/store"
)

// lengthSize is how many bytes each entry takes of a budget beside its own.
const lengthSize = 2

// Stream tells the entries of a span, chunk by chunk. The zero value is one that is over.
type Stream struct {
	size  int
	state state
}

// state is where a stream stands: it goes on, or it is over.
type state interface {
	// left tells how many entries are to come.
	left() int
	// next is the next chunk, and where the stream stands behind it.
	next() (chunk, state, api.Errno)
}

// chunk is some entries, and the index of the first one.
type chunk struct {
	first   int
	entries []string
}

// Open begins one, whose chunks have at most so many bytes (or one entry).
func Open(s *store.Store, size int, x api.Span, budget int) (*Stream, api.Errno) {
	switch {
	case budget < 1 || budget > api.MaxBudget:
		return nil, api.ErrSpanBudget
	case size > s.Size() || !isRun(size, x):
		return nil, api.ErrSpanRange
	}
	return &Stream{size, goesOn{s, x, budget}}, api.OK
}

// Next is the next chunk: its entries, the first one's index; is it the last one?
func (s *Stream) Next() ([]string, int, bool, api.Errno) {
	c, behind, e := s.stands().next()
	if e != api.OK {
		return nil, 0, false, e
	}
	s.state = behind
	return c.entries, c.first, behind.left() == 0, api.OK
}

// Size is that of the tree of which it tells.
func (s *Stream) Size() int {
	if s == nil {
		return 0
	}
	return s.size
}

// Left tells how many entries are to come.
func (s *Stream) Left() int { return s.stands().left() }

// stands tells where the stream stands; where there is none, it is over: Open gives none beside an error, and no call on that may panic.
func (s *Stream) stands() state {
	if s == nil || s.state == nil {
		return over{}
	}
	return s.state
}

// goesOn is that of a stream with entries to come.
type goesOn struct {
	store  *store.Store
	rest   api.Span
	budget int
}

func (g goesOn) left() int { return g.rest.End - g.rest.Begin }

func (g goesOn) next() (chunk, state, api.Errno) {
	entries, e := g.entries()
	if e != api.OK {
		return chunk{}, nil, e
	}
	c := chunk{g.rest.Begin, entries}
	g.rest.Begin += len(entries)
	if g.left() == 0 {
		return c, over{}, api.OK
	}
	return c, g, api.OK
}

// entries are those of the next chunk. A store only grows, so that they are there, and are what they were when the stream was opened; it is in doubt, if it tells an error.
func (g goesOn) entries() ([]string, api.Errno) {
	var l []string
	bytes := 0
	for i := range min(g.left(), api.MaxList) {
		entry, e := g.store.Entry(g.rest.Begin + i)
		if e != api.OK {
			return nil, e
		}
		bytes += lengthSize + len(entry)
		if i > 0 && bytes > g.budget {
			break
		}
		l = append(l, entry)
	}
	return l, api.OK
}

// over is that of a stream without entries to come; the store is kept no longer.
type over struct{}

func (over) left() int { return 0 }

func (over) next() (chunk, state, api.Errno) { return chunk{}, nil, api.ErrSpanOver }
