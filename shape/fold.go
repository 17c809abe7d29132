package shape

import (
	"scrivener/api"
	"scrivener/digest"
)

// subtree is a known one, with its hash.
type subtree struct {
	span api.Span
	hash string
}

// has tells whether a span that has a leaf is within another one. What is handed in as known may have none, or end ahead of where it begins.
func has(outer, inner api.Span) bool {
	return outer.Begin <= inner.Begin && inner.Begin < inner.End && inner.End <= outer.End
}

// paired are known spans, each with its hash, in their order.
func paired(known []api.Span, hashes []string) []subtree {
	all := make([]subtree, len(known))
	for i, s := range known {
		all[i] = subtree{s, hashes[i]}
	}
	return all
}

// within are those within a span, in their order.
func within(s api.Span, known []subtree) []subtree {
	var in []subtree
	for _, k := range known {
		if has(s, k.span) {
			in = append(in, k)
		}
	}
	return in
}

// fold is the hash of a span, out of the known ones within it, if it can be folded. Each part is handed its own, so that one without any is not looked at, whatever its length.
func fold(s api.Span, known []subtree) (string, bool) {
	for _, k := range known {
		if k.span == s {
			return k.hash, true
		}
	}
	if length(s) == 1 {
		return "", false
	}
	left, right := parts(s)
	inLeft, inRight := within(left, known), within(right, known)
	if len(inLeft) == 0 || len(inRight) == 0 {
		return "", false
	}
	a, ok := fold(left, inLeft)
	if !ok {
		return "", false
	}
	b, ok := fold(right, inRight)
	if !ok {
		return "", false
	}
	// No error can come: both have 32 bytes.
	hash, _ := digest.Node(a, b)
	return hash, true
}
