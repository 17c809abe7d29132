package recursion_test

import (
	"crypto/sha256"
	"slices"
	"strconv"

	"scrivener/api"
)

// The model knows no recursion. Roots are made level by level, two neighbours a node; the subtrees are the complete ones, cut off where the tree ends; a way up goes from a subtree to the smallest one around it.

// some are n leaves, unlike those of another kind.
func some(n int, kind string) []string {
	var l []string
	for i := range n {
		h := sha256.Sum256([]byte(kind + " " + strconv.Itoa(i)))
		l = append(l, string(h[:]))
	}
	return l
}

func node(left, right string) string {
	h := sha256.Sum256([]byte("\x01" + left + right))
	return string(h[:])
}

func slowRoot(l []string) string {
	if len(l) == 0 {
		h := sha256.Sum256(nil)
		return string(h[:])
	}
	level := slices.Clone(l)
	for len(level) > 1 {
		var up []string
		for i := 0; i < len(level); i += 2 {
			if i+1 < len(level) {
				up = append(up, node(level[i], level[i+1]))
			} else {
				up = append(up, level[i])
			}
		}
		level = up
	}
	return level[0]
}

// model is a tree: its leaves, and all its subtrees with their roots.
type model struct {
	leaves []string
	roots  map[api.Span]string
}

func newModel(l []string) model {
	t := model{l, map[api.Span]string{}}
	for width := 1; width < 2*len(l); width *= 2 {
		for b := 0; b < len(l); b += width {
			s := api.Span{Begin: b, End: min(b+width, len(l))}
			t.roots[s] = slowRoot(l[s.Begin:s.End])
		}
	}
	return t
}

func around(outer, inner api.Span) bool {
	return outer != inner && outer.Begin <= inner.Begin && inner.End <= outer.End
}

// parent is the smallest subtree around s.
func (t model) parent(s api.Span) (api.Span, bool) {
	var best api.Span
	found := false
	for o := range t.roots {
		if around(o, s) && (!found || around(best, o)) {
			best, found = o, true
		}
	}
	return best, found
}

// up are the roots beside the way from s to the top.
func (t model) up(s api.Span) []string {
	var out []string
	for {
		p, found := t.parent(s)
		if !found {
			return out
		}
		beside := api.Span{Begin: p.Begin, End: s.Begin}
		if s.Begin == p.Begin {
			beside = api.Span{Begin: s.End, End: p.End}
		}
		out = append(out, t.roots[beside])
		s = p
	}
}

func (t model) path(index int) []string {
	return t.up(api.Span{Begin: index, End: index + 1})
}

// proof: the greatest subtree that ends where the first leaves end, unless these are all of it; and what stands beside its way up.
func (t model) proof(first int) []string {
	last := api.Span{Begin: first, End: first}
	for s := range t.roots {
		if s.End == first && s.Begin < last.Begin {
			last = s
		}
	}
	if last.Begin == 0 {
		return t.up(last)
	}
	return append([]string{t.roots[last]}, t.up(last)...)
}

// many: the greatest subtrees without any of the leaves, from the left.
func (t model) many(indices []int) []string {
	has := func(s api.Span) bool {
		return slices.ContainsFunc(indices, func(i int) bool { return s.Begin <= i && i < s.End })
	}
	var spans []api.Span
	for s := range t.roots {
		if p, found := t.parent(s); !has(s) && (!found || has(p)) {
			spans = append(spans, s)
		}
	}
	slices.SortFunc(spans, func(a, b api.Span) int { return a.Begin - b.Begin })
	var out []string
	for _, s := range spans {
		out = append(out, t.roots[s])
	}
	return out
}
