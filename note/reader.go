package note

import (
	"strconv"
	"strings"

	"scrivener/api"
	"scrivener/digest"
)

const leastLines = 4 // a body and the empty line

// reader reads a note line by line.
type reader struct {
	note  api.Note
	taken int // lines, which may all be
}

// read reads a whole text, up to the first line that may not be.
func (r *reader) read(s string) error {
	for len(s) > 0 || r.taken < leastLines {
		line, rest, ok := cut(s)
		if !ok || !r.take(line) {
			return fault{"line " + strconv.Itoa(r.line()), errForm}
		}
		r.taken++
		s = rest
	}
	return nil
}

// line is the number of the line that is read next.
func (r *reader) line() int { return r.taken + 1 }

// take reads a line, and tells whether it may be.
func (r *reader) take(line string) bool {
	switch r.line() {
	case 1:
		r.note.Origin = line
		return isName(line)
	case 2:
		size, ok := sizeOf(line)
		r.note.Head.Size = size
		return ok
	case 3:
		root, e := digest.FromBase64(line)
		r.note.Head.Root = root
		return e == api.OK && len(root) == api.HashSize
	case leastLines:
		return line == ""
	}
	s, ok := signatureOf(line)
	r.note.Signatures = append(r.note.Signatures, s)
	return ok && maySignatures(r.note.Signatures) == nil
}

// cut takes the first line off a text, if it has an end.
func cut(s string) (line, rest string, ok bool) {
	for at, sign := range s {
		if sign == lineEnd {
			return s[:at], s[at+1:], true
		}
	}
	return "", s, false
}

// sizeOf is the size of which a line is the text.
func sizeOf(line string) (int, bool) {
	size, err := strconv.Atoi(line)
	// Atoi takes signs and noughts ahead as well: only the one text of a number is its own.
	return size, err == nil && size >= 0 && size <= api.MaxSize && strconv.Itoa(size) == line
}

// signatureOf is what a signature's line tells; whether that may be is not looked at.
func signatureOf(line string) (api.Signature, bool) {
	marked, ok := strings.CutPrefix(line, signatureMark)
	name, text, parted := strings.Cut(marked, " ")
	data, e := digest.FromBase64(text)
	return api.Signature{Name: name, Data: data}, ok && parted && e == api.OK
}
