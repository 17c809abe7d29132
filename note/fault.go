package note

import (
	"errors"

	"scrivener/api"
)

// What may be wrong with a note: a fault wraps one of these, in where it is.
var (
	errForm  = errors.New("not of the form that it must have")
	errField = errors.New("a field that may not be")
	errNone  = errors.New("not signed")
	errBad   = errors.New("a signature that is not right")
	errMany  = errors.New("more signatures than there may be")
)

// fault is what is wrong, and where.
type fault struct {
	where string
	wrong error
}

// Error tells it as a text.
func (f fault) Error() string { return f.where + ": " + f.wrong.Error() }

// Unwrap is what is wrong, wherever it is.
func (f fault) Unwrap() error { return f.wrong }

// errnoOf is the number of what is wrong, if anything is.
func errnoOf(err error) api.Errno {
	switch {
	case err == nil:
		return api.OK
	case errors.Is(err, errField):
		return api.ErrNoteField
	case errors.Is(err, errNone):
		return api.ErrNoteNone
	case errors.Is(err, errBad):
		return api.ErrNoteBad
	case errors.Is(err, errMany):
		return api.ErrNoteMany
	}
	return api.ErrNoteForm
}
