package span

import (
	"slices"
	"strings"

	"scrivener/api"
)

// Joiner puts chunks together. The zero value is one that wants nothing.
type Joiner struct {
	next, end int // of the entries that are wanted
	entries   []string
}

// NewJoiner makes one for a span.
func NewJoiner(x api.Span) (*Joiner, api.Errno) {
	if !isRun(api.MaxSize, x) {
		return nil, api.ErrSpanRange
	}
	return &Joiner{next: x.Begin, end: x.End}, api.OK
}

// Take takes a chunk.
func (j *Joiner) Take(first int, entries []string) api.Errno {
	switch {
	case j.Done():
		return api.ErrSpanOver
	case len(entries) == 0 || len(entries) > j.end-j.next || first != j.next || !areEntries(entries):
		return api.ErrSpanForm
	}
	for _, entry := range entries {
		// A copy, since a piece of a longer text would keep all of that.
		j.entries = append(j.entries, strings.Clone(entry))
	}
	j.next += len(entries)
	return api.OK
}

// Done tells whether all are there.
func (j *Joiner) Done() bool { return j.orNone().next == j.orNone().end }

// Entries tells what is there so far.
func (j *Joiner) Entries() []string { return slices.Clone(j.orNone().entries) }

// orNone is the joiner; where there is none, one that wants nothing: NewJoiner gives none beside an error, and no call on that may panic.
func (j *Joiner) orNone() *Joiner {
	if j == nil {
		return &Joiner{}
	}
	return j
}

func areEntries(l []string) bool {
	for _, entry := range l {
		if len(entry) > api.MaxEntry {
			return false
		}
	}
	return true
}
