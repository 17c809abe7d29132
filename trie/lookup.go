package trie

import (
	"slices"
	"strings"

	"scrivener/api"
	"scrivener/digest"
)

// What stands ahead of a leaf and of a fork, so that neither has the text of the other.
const (
	leafMark = "\x02"
	forkMark = "\x03"
)

// nought is the hash of no key.
const (
	eight  = "\x00\x00\x00\x00\x00\x00\x00\x00"
	nought = eight + eight + eight + eight
)

const bits = 8 * api.HashSize // of a place

// entry is a key and its value, as they were set last.
type entry struct{ key, value string }

// leafOf is one made of copies, since pieces of longer texts would keep all of those.
func leafOf(key, value string) *leaf[entry] {
	place := digest.Sum(key)
	return &leaf[entry]{place, leafHash(place, digest.Sum(value)), entry{strings.Clone(key), strings.Clone(value)}}
}

func leafHash(key, value string) string { return digest.Sum(leafMark, key, value) }

func forkHash(sides [2]string) string { return digest.Sum(forkMark, sides[0], sides[1]) }

// lookupOf is that of a way down.
func lookupOf(others []string, end *leaf[entry]) api.Lookup {
	if end == nil {
		return api.Lookup{Sides: others}
	}
	return api.Lookup{Sides: others, There: true, Key: end.place, Value: digest.Sum(end.thing.value)}
}

// mayBe tells whether it may be the lookup of a place, whatever is there.
func mayBe(p api.Lookup, place string) bool {
	if len(p.Sides) > bits || slices.ContainsFunc(p.Sides, func(s string) bool { return !isHash(s) }) {
		return false
	}
	if !p.There {
		return p.Key == "" && p.Value == ""
	}
	return isHash(p.Key) && isHash(p.Value) && agree(p.Key, place, len(p.Sides))
}

// says tells whether a lookup says of a place that its key has a value (there), or none.
func says(p api.Lookup, place, value string, there bool) bool {
	its := p.There && p.Key == place
	if !there {
		return !its
	}
	return its && p.Value == digest.Sum(value)
}

// rootOf is the root to which the lookup of a place leads, from its end up.
func rootOf(p api.Lookup, place string) string {
	hash := nought
	if p.There {
		hash = leafHash(p.Key, p.Value)
	}
	for d, other := range slices.Backward(p.Sides) {
		b := bit(place, d)
		var sides [2]string
		sides[b], sides[1-b] = hash, other
		hash = forkHash(sides)
	}
	return hash
}

// agree tells whether two places have the same first bits, so many.
func agree(a, b string, many int) bool {
	for d := range many {
		if bit(a, d) != bit(b, d) {
			return false
		}
	}
	return true
}

// bit is one of a place's, from the highest one of its first byte on.
func bit(place string, d int) int { return int(place[d/8]>>(7-d%8)) & 1 }

func isHash(s string) bool { return len(s) == api.HashSize }

func isKey(s string) bool { return len(s) <= api.MaxKey }

func isValue(s string) bool { return len(s) <= api.MaxValue }
