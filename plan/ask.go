package plan

import (
	"scrivener/api"
	"scrivener/batch"
	"scrivener/chain"
	"scrivener/codec"
	"scrivener/verify"
)

// ask is what is asked for, of a request that has its form: a root, a path, a proof, leaves or heads. A step is one, too.
type ask any

type root struct{ size int }

type path struct{ size, index int }

type proof struct{ first, second int }

// leaves are those of a batch.
type leaves struct {
	size    int
	indices []int
}

// heads are those of a chain.
type heads []int

// formed are the asks of some requests, if each has its form. Their lists are still those of the requests.
func formed(requests []api.Request) ([]ask, bool) {
	all := make([]ask, len(requests))
	for i, r := range requests {
		a := askOf(r)
		if a == nil || !hasForm(r, requestOf(a)) {
			return nil, false
		}
		all[i] = a
	}
	return all, true
}

// askOf is what a request asks for, whatever stands in the fields that its kind has not; nothing, if plans have not its kind.
func askOf(r api.Request) ask {
	switch r.Kind {
	case api.AskRoot:
		return root{r.Size}
	case api.AskInclusion:
		return path{r.Size, r.A}
	case api.AskConsistency:
		return proof{r.A, r.Size}
	case api.AskBatch:
		return leaves{r.Size, r.List}
	case api.AskChain:
		return heads(r.List)
	}
	return nil
}

// requestOf is the request by which it is asked for.
func requestOf(a ask) api.Request {
	switch a := a.(type) {
	case root:
		return api.Request{Kind: api.AskRoot, Size: a.size}
	case path:
		return api.Request{Kind: api.AskInclusion, A: a.index, Size: a.size}
	case proof:
		return api.Request{Kind: api.AskConsistency, A: a.first, Size: a.second}
	case leaves:
		return api.Request{Kind: api.AskBatch, Size: a.size, List: a.indices}
	case heads:
		return api.Request{Kind: api.AskChain, List: a}
	}
	return api.Request{}
}

// hasForm tells whether a request has no more than what it asks for needs.
func hasForm(r, needs api.Request) bool {
	return r.A == needs.A && r.B == 0 && r.Size == needs.Size && len(r.List) == len(needs.List) && len(r.Entries) == 0 && len(r.Asks) == 0
}

// mayBe tells whether a log of a size has it.
func mayBe(a ask, size int) bool {
	if reach(a) > size {
		return false
	}
	_, e := count(a)
	return e == api.OK
}

// reach is how many leaves a log must have for it, if it may be at all.
func reach(a ask) int {
	switch a := a.(type) {
	case root:
		return a.size
	case path:
		return a.size
	case proof:
		return a.second
	case leaves:
		return a.size
	case heads:
		if len(a) > 0 {
			return a[len(a)-1]
		}
	}
	return 0
}

// count is how many hashes it answers, or an error, if no log has it.
func count(a ask) (int, api.Errno) {
	switch a := a.(type) {
	case root:
		if a.size >= 0 {
			return 1, api.OK
		}
	case path:
		return verify.PathLen(a.size, a.index)
	case proof:
		return verify.ProofLen(a.first, a.second)
	case leaves:
		return batch.Count(a.size, a.indices)
	case heads:
		spans, e := chain.Nodes(a)
		return len(spans), e
	}
	return 0, api.ErrArg
}

// countAll is how many hashes all of them answer. No error can come: each one may be.
func countAll(all []ask) int {
	sum := 0
	for _, a := range all {
		n, _ := count(a)
		sum += n
	}
	return sum
}

// key is that of a step in the cache. No error can come: a step may be, so that its numbers are in bounds and its lists rise.
func key(step ask) string {
	w := codec.NewWriter()
	w.Byte(requestOf(step).Kind)
	switch s := step.(type) {
	case root:
		w.Num(s.size)
	case path:
		w.Num(s.index)
		w.Num(s.size)
	case proof:
		w.Num(s.first)
		w.Num(s.second)
	case leaves:
		w.Num(s.size)
		w.Rising(s.indices)
	case heads:
		w.Rising(s)
	}
	bytes, _ := w.Done()
	return bytes
}
