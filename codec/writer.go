package codec

import (
	"errors"

	"scrivener/api"
)

// Writer writes bytes; what does not fit is told at the end.
type Writer struct {
	bytes []byte
	wrong error // a fault, the first one
}

// NewWriter makes one.
func NewWriter() *Writer { return &Writer{} }

// Byte writes a number as a byte.
func (w *Writer) Byte(n int) {
	if w.takes(byteFault(n)) {
		w.bytes = append(w.bytes, byte(n))
	}
}

// Num writes a number by as few bytes as may be.
func (w *Writer) Num(n int) {
	if w.takes(numFault(n)) {
		w.bytes = appendNum(w.bytes, n)
	}
}

// Rising writes numbers that rise, how many ahead.
func (w *Writer) Rising(l []int) {
	if !w.takes(risingFault(l)) {
		return
	}
	w.bytes = appendNum(w.bytes, len(l))
	least := 0
	for _, n := range l {
		w.bytes = appendNum(w.bytes, n-least)
		least = n + 1
	}
}

// Text writes a text of at most so many bytes, its length ahead.
func (w *Writer) Text(s string, most int) {
	if w.takes(textFault(s, most)) {
		w.bytes = appendText(w.bytes, s)
	}
}

// Texts writes texts, how many ahead.
func (w *Writer) Texts(l []string, many, most int) {
	if !w.takes(textsFault(l, many, most)) {
		return
	}
	w.bytes = appendNum(w.bytes, len(l))
	for _, s := range l {
		w.bytes = appendText(w.bytes, s)
	}
}

// Hashes writes hashes, how many ahead.
func (w *Writer) Hashes(l []string, many int) {
	if !w.takes(hashesFault(l, many)) {
		return
	}
	w.bytes = appendNum(w.bytes, len(l))
	for _, s := range l {
		w.bytes = append(w.bytes, s...)
	}
}

// Raw writes bytes.
func (w *Writer) Raw(s string) {
	if w.takes(api.OK) {
		w.bytes = append(w.bytes, s...)
	}
}

// Done is all that was written, or what did not fit first.
func (w *Writer) Done() (string, api.Errno) {
	if w == nil {
		return "", api.OK
	}
	var f fault
	if errors.As(w.wrong, &f) {
		return "", f.errno
	}
	return string(w.bytes), api.OK
}

// takes tells whether bytes may be laid down: nothing is wrong with this call, nor was with one ahead of it.
func (w *Writer) takes(e api.Errno) bool {
	if w == nil || w.wrong != nil {
		return false
	}
	if e != api.OK {
		// Nobody will ever be told the bytes that are there.
		w.bytes, w.wrong = nil, fault{errno: e}
		return false
	}
	return true
}

// appendText lays a text behind what is there, its length ahead.
func appendText(out []byte, s string) []byte {
	return append(appendNum(out, len(s)), s...)
}

func byteFault(n int) api.Errno {
	if n < 0 || n > 255 {
		return api.ErrCodecRange
	}
	return api.OK
}

func numFault(n int) api.Errno {
	if !isNumber(n) {
		return api.ErrCodecRange
	}
	return api.OK
}

func risingFault(l []int) api.Errno {
	last := -1
	for _, n := range l {
		if !isNumber(n) || n <= last {
			return api.ErrCodecRange
		}
		last = n
	}
	return api.OK
}

func textFault(s string, most int) api.Errno {
	switch {
	case most < 0:
		return api.ErrArg
	case len(s) > most:
		return api.ErrCodecLong
	}
	return api.OK
}

func textsFault(l []string, many, most int) api.Errno {
	switch {
	case many < 0 || most < 0:
		return api.ErrArg
	case len(l) > many:
		return api.ErrCodecLong
	}
	for _, s := range l {
		if e := textFault(s, most); e != api.OK {
			return e
		}
	}
	return api.OK
}

func hashesFault(l []string, many int) api.Errno {
	switch {
	case many < 0:
		return api.ErrArg
	case len(l) > many:
		return api.ErrCodecLong
	}
	for _, s := range l {
		if len(s) != api.HashSize {
			return api.ErrCodecRange
		}
	}
	return api.OK
}
