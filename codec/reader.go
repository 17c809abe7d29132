package codec

import (
	"errors"

	"scrivener/api"
)

// Reader reads bytes; what is wrong is told at the end.
type Reader struct {
	rest  string
	taken int   // bytes ahead of rest
	wrong error // a fault, the first one
}

// NewReader makes one.
func NewReader(s string) *Reader { return &Reader{rest: s} }

// Byte reads one.
func (r *Reader) Byte() int { return take(r, byteAt) }

// Num reads a number.
func (r *Reader) Num() int { return take(r, numAt) }

// Rising reads numbers that rise, at most so many.
func (r *Reader) Rising(many int) []int {
	return take(r, func(s string) ([]int, string, api.Errno) { return risingAt(s, many) })
}

// Text reads a text of at most so many bytes.
func (r *Reader) Text(most int) string {
	return take(r, func(s string) (string, string, api.Errno) { return textAt(s, most) })
}

// Texts reads texts, at most so many, each of at most so many bytes.
func (r *Reader) Texts(many, most int) []string {
	return take(r, func(s string) ([]string, string, api.Errno) { return textsAt(s, many, most) })
}

// Hashes reads hashes, at most so many.
func (r *Reader) Hashes(many int) []string {
	return take(r, func(s string) ([]string, string, api.Errno) { return hashesAt(s, many) })
}

// Raw reads n bytes.
func (r *Reader) Raw(n int) string {
	return take(r, func(s string) (string, string, api.Errno) { return rawAt(s, n) })
}

// Left tells how many bytes are left.
func (r *Reader) Left() int {
	if r == nil {
		return 0
	}
	return len(r.rest)
}

// Done tells what was wrong first, and where; also that bytes are left.
func (r *Reader) Done() (api.Errno, int) {
	if r == nil {
		return api.OK, 0
	}
	var f fault
	switch {
	case errors.As(r.wrong, &f):
		return f.errno, f.taken
	case len(r.rest) > 0:
		return api.ErrCodecMore, r.taken
	}
	return api.OK, r.taken
}

// take is what stands at the front, as at reads it, and is taken off; nothing is, if at finds a fault or one was found ahead of it.
func take[T any](r *Reader, at func(s string) (T, string, api.Errno)) T {
	var none T
	if r == nil || r.wrong != nil {
		return none
	}
	value, rest, e := at(r.rest)
	if e != api.OK {
		r.wrong = fault{e, r.taken}
		return none
	}
	r.taken += len(r.rest) - len(rest)
	r.rest = rest
	return value
}

// The next ones are each what stands at the front of s, and what stands behind it.

func byteAt(s string) (int, string, api.Errno) {
	if s == "" {
		return 0, "", api.ErrCodecShort
	}
	return int(s[0]), s[1:], api.OK
}

func rawAt(s string, n int) (string, string, api.Errno) {
	switch {
	case n < 0:
		return "", "", api.ErrArg
	case n > len(s):
		return "", "", api.ErrCodecShort
	}
	return s[:n], s[n:], api.OK
}

func textAt(s string, most int) (string, string, api.Errno) {
	n, rest, e := manyAt(s, most)
	if e != api.OK {
		return "", "", e
	}
	return rawAt(rest, n)
}

func risingAt(s string, many int) ([]int, string, api.Errno) {
	count, rest, e := manyAt(s, many)
	if e != api.OK {
		return nil, "", e
	}
	var l []int
	least := 0
	for range count {
		var above int
		if above, rest, e = numAt(rest); e != api.OK {
			return nil, "", e
		}
		// The sum itself may be more than an int holds.
		if above > greatest-least {
			return nil, "", api.ErrCodecRange
		}
		l = append(l, least+above)
		least += above + 1
	}
	return l, rest, api.OK
}

func textsAt(s string, many, most int) ([]string, string, api.Errno) {
	if most < 0 {
		return nil, "", api.ErrArg
	}
	count, rest, e := manyAt(s, many)
	if e != api.OK {
		return nil, "", e
	}
	var l []string
	for range count {
		var text string
		if text, rest, e = textAt(rest, most); e != api.OK {
			return nil, "", e
		}
		l = append(l, text)
	}
	return l, rest, api.OK
}

func hashesAt(s string, many int) ([]string, string, api.Errno) {
	count, rest, e := manyAt(s, many)
	if e != api.OK {
		return nil, "", e
	}
	// Divided, for the bytes of all may be more than an int holds.
	if count > len(rest)/api.HashSize {
		return nil, "", api.ErrCodecShort
	}
	var l []string
	for range count {
		l = append(l, rest[:api.HashSize])
		rest = rest[api.HashSize:]
	}
	return l, rest, api.OK
}
