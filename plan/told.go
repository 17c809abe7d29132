package plan

import (
	"math/bits"
	"slices"

	"scrivener/api"
	"scrivener/batch"
	"scrivener/cache"
	"scrivener/chain"
	"scrivener/tile"
)

// told is a step with the hashes that it answers.
type told struct {
	tree   *tile.Tree
	step   ask
	hashes []string
	parts  [][]string // of leaves each one's path, of heads each pair's proof; nil until one is needed
}

// answers are the replies to asks that may be.
func answers(t *tile.Tree, c *cache.Cache, asks []ask) []api.Reply {
	steps, of := stepsOf(asks)
	all := make([]told, len(steps))
	for i, s := range steps {
		all[i] = told{tree: t, step: s, hashes: lookedUp(t, c, s)}
	}
	replies := make([]api.Reply, len(asks))
	for i, a := range asks {
		replies[i] = all[of[i]].reply(a)
	}
	return replies
}

// reply is that to an ask which goes to the step.
func (x *told) reply(a ask) api.Reply {
	hashes := x.hashes
	switch a := a.(type) {
	case root:
		return api.Reply{Root: x.hashes[0]}
	case path:
		hashes = x.pathOf(a.index)
	case proof:
		hashes = x.proofOf(a)
	case leaves:
		hashes = x.batchOf(a)
	}
	// Asks that go to one step have lists of their own.
	return api.Reply{Hashes: slices.Clone(hashes)}
}

// pathOf is that of one of the step's leaves.
func (x *told) pathOf(index int) []string {
	if s, ok := x.step.(leaves); ok {
		i, _ := slices.BinarySearch(s.indices, index)
		return x.expanded()[i]
	}
	return x.hashes
}

// proofOf is that of one of the step's pairs.
func (x *told) proofOf(p proof) []string {
	if s, ok := x.step.(heads); ok {
		return x.expanded()[pairIn(s, p)]
	}
	return x.hashes
}

// batchOf is the hashes of a proof of some of the step's leaves; those of the step, if these are all.
func (x *told) batchOf(a leaves) []string {
	if s, ok := x.step.(leaves); ok && len(s.indices) == len(a.indices) {
		return x.hashes
	}
	paths := make([][]string, len(a.indices))
	for i, index := range a.indices {
		paths[i] = x.pathOf(index)
	}
	return joined(api.Span{End: a.size}, a.indices, paths)
}

// expanded are the parts of a step of leaves or of heads. No error can come: its hashes are as many as they must be.
func (x *told) expanded() [][]string {
	if x.parts != nil {
		return x.parts
	}
	switch s := x.step.(type) {
	case leaves:
		x.parts, _ = batch.Expand(api.Batch{Size: s.size, Indices: s.indices, Hashes: x.hashes}, leavesAt(x.tree, s.indices))
	case heads:
		x.parts, _ = chain.Expand(api.Chain{Heads: s, Hashes: x.hashes})
	}
	return x.parts
}

// leavesAt are a tree's leaves at some places. No error can come: they are there.
func leavesAt(t *tile.Tree, indices []int) []string {
	l := make([]string, len(indices))
	for i, index := range indices {
		l[i], _ = t.Hash(api.Node{Index: index})
	}
	return l
}

// joined is the proof of many leaves of a subtree, from the left, out of the paths that they have in it, from below. Where one part alone has them, the hash of the other one stands last in each path.
func joined(s api.Span, indices []int, paths [][]string) []string {
	if s.End-s.Begin == 1 {
		return nil
	}
	middle := s.Begin + 1<<(bits.Len(uint(s.End-s.Begin-1))-1)
	left, right := api.Span{Begin: s.Begin, End: middle}, api.Span{Begin: middle, End: s.End}
	last, rest := paths[0][len(paths[0])-1], shortened(paths)
	first, _ := slices.BinarySearch(indices, middle)
	switch first {
	case 0:
		return append([]string{last}, joined(right, indices, rest)...)
	case len(indices):
		return append(joined(left, indices, rest), last)
	}
	return append(joined(left, indices[:first], rest[:first]), joined(right, indices[first:], rest[first:])...)
}

// shortened are paths without their last hashes: those in the part where their leaf is.
func shortened(paths [][]string) [][]string {
	l := make([][]string, len(paths))
	for i, p := range paths {
		l[i] = p[:len(p)-1]
	}
	return l
}
