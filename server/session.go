package server

import (
	"maps"
	"slices"

	"scrivener/api"
	"scrivener/span"
)

// session is what one who asks has opened.
type session struct {
	streams numbered[*span.Stream]
}

func newSession() *session { return &session{upTo[*span.Stream](api.MaxStreams)} }

// numbered are things with the numbers 1, 2, 3 and so on, as they came, none twice; there are at most so many at once. The zero value has none and takes none.
type numbered[T any] struct {
	most, last int
	things     map[int]T
}

func upTo[T any](most int) numbered[T] { return numbered[T]{most: most, things: map[int]T{}} }

func (n *numbered[T]) full() bool { return len(n.things) == n.most }

// add gives a thing its number. Whoever calls has asked whether there is room.
func (n *numbered[T]) add(thing T) int {
	n.last++
	n.things[n.last] = thing
	return n.last
}

func (n *numbered[T]) find(number int) (T, bool) {
	thing, there := n.things[number]
	return thing, there
}

func (n *numbered[T]) drop(number int) { delete(n.things, number) }

// numbers are those of the things that there are, rising.
func (n *numbered[T]) numbers() []int { return slices.Sorted(maps.Keys(n.things)) }
