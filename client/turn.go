package client

import (
	"scrivener/api"
	"scrivener/batch"
	"scrivener/chain"
	"scrivener/digest"
	"scrivener/span"
	"scrivener/verify"
)

// stream is one that was opened: its next entry's index, and its end, in the log of a size.
type stream struct{ size, next, end int }

// turn is what a reply is held to, and what changes by it.
type turn struct {
	roots   *roots
	streams map[int]stream
}

// look holds a reply that is Done to what was awaited.
func (c *Client) look(what awaited, r api.Reply) (api.Outcome, api.Errno) {
	if g, ok := what.(group); ok {
		return c.lookAtAll(g, r.Replies)
	}
	a, _ := what.(ask)
	return turn{&c.roots, c.streams}.look(a, r)
}

// lookAtAll holds replies to a group. It does so on a draft, since nothing may be left of the first ones if a later one is wrong.
func (c *Client) lookAtAll(g group, replies []api.Reply) (api.Outcome, api.Errno) {
	if !fit(g, replies) {
		return api.Outcome{}, api.ErrClientReply
	}
	draft := c.roots.draft()
	all := api.Outcome{Kind: api.AskGroup, Outcomes: make([]api.Outcome, len(g))}
	for i, a := range g {
		o, e := turn{&draft, c.streams}.look(a, replies[i])
		if e != api.OK {
			return api.Outcome{}, e
		}
		all.Outcomes[i] = o
	}
	draft.settle()
	return all, api.OK
}

// fit tells whether there is a reply for each ask, with a root just if that asks for one: replies of a group do not tell their kind.
func fit(g group, replies []api.Reply) bool {
	if len(replies) != len(g) {
		return false
	}
	for i, a := range g {
		if (a.kind() == api.AskRoot) != (replies[i].Root != "") {
			return false
		}
	}
	return true
}

// look holds a reply to an ask. Whatever changes by it does so behind the last thing that could be wrong.
func (t turn) look(a ask, r api.Reply) (api.Outcome, api.Errno) {
	table := [...]func(turn, ask, api.Reply) (api.Outcome, api.Errno){
		api.AskAppend:      turn.appended,
		api.AskHead:        turn.head,
		api.AskRoot:        turn.root,
		api.AskInclusion:   turn.inclusion,
		api.AskConsistency: turn.consistency,
		api.AskBatch:       turn.batch,
		api.AskChain:       turn.chain,
		api.AskEntries:     turn.entries,
		api.AskOpen:        turn.open,
		api.AskPull:        turn.pull,
		api.AskClose:       turn.leave,
	}
	o, e := table[a.kind()](t, a, r)
	if e != api.OK {
		return api.Outcome{}, e
	}
	o.Kind = a.kind()
	return o, api.OK
}

func (t turn) appended(a ask, r api.Reply) (api.Outcome, api.Errno) {
	if r.A+a.entries != r.Size {
		return api.Outcome{}, api.ErrClientReply
	}
	o, e := t.head(a, r)
	o.First = r.A
	return o, e
}

// head takes the log's word for the first head that has leaves: there is nothing yet to hold it to.
func (t turn) head(_ ask, r api.Reply) (api.Outcome, api.Errno) {
	h := api.Head{Size: r.Size, Root: r.Root}
	if t.roots.greatest > 0 || h.Size == 0 {
		return t.told(h)
	}
	t.roots.trust(h)
	return api.Outcome{Head: h}, api.OK
}

func (t turn) root(a ask, r api.Reply) (api.Outcome, api.Errno) {
	return t.told(api.Head{Size: a.request.Size, Root: r.Root})
}

// told is a head that the log says it has.
func (t turn) told(h api.Head) (api.Outcome, api.Errno) {
	if t.roots.denies(h) {
		return api.Outcome{}, api.ErrClientFork
	}
	t.roots.hear(h)
	return api.Outcome{Head: h}, api.OK
}

func (t turn) inclusion(a ask, r api.Reply) (api.Outcome, api.Errno) {
	h := t.roots.trustedHead(a.request.Size)
	if verify.Inclusion(h.Size, a.request.A, a.leaves[0], r.Hashes, h.Root) != api.OK {
		return api.Outcome{}, api.ErrClientProof
	}
	return api.Outcome{Head: h, Paths: [][]string{r.Hashes}}, api.OK
}

func (t turn) batch(a ask, r api.Reply) (api.Outcome, api.Errno) {
	h := t.roots.trustedHead(a.request.Size)
	b := api.Batch{Size: h.Size, Indices: a.request.List, Hashes: r.Hashes}
	if batch.Check(b, a.leaves, h.Root) != api.OK {
		return api.Outcome{}, api.ErrClientProof
	}
	// No error can come: Check has taken it.
	paths, _ := batch.Expand(b, a.leaves)
	return api.Outcome{Head: h, Paths: paths}, api.OK
}

func (t turn) consistency(a ask, r api.Reply) (api.Outcome, api.Errno) {
	heads := t.roots.knownHeads(a.request.A, a.request.Size)
	old, now := heads[0], heads[1]
	if verify.Consistency(old.Size, now.Size, old.Root, now.Root, r.Hashes) != api.OK {
		return api.Outcome{}, api.ErrClientProof
	}
	t.roots.trust(old, now)
	return api.Outcome{Head: now, Proofs: [][]string{r.Hashes}}, api.OK
}

func (t turn) chain(a ask, r api.Reply) (api.Outcome, api.Errno) {
	heads := t.roots.knownHeads(a.request.List...)
	c := api.Chain{Heads: a.request.List, Hashes: r.Hashes}
	if chain.Check(c, rootsOf(heads)) != api.OK {
		return api.Outcome{}, api.ErrClientProof
	}
	t.roots.trust(heads...)
	// No error can come: Check has taken it.
	proofs, _ := chain.Expand(c)
	return api.Outcome{Head: heads[len(heads)-1], Proofs: proofs}, api.OK
}

func rootsOf(heads []api.Head) []string {
	l := make([]string, len(heads))
	for i, h := range heads {
		l[i] = h.Root
	}
	return l
}

func (t turn) entries(a ask, r api.Reply) (api.Outcome, api.Errno) {
	if len(r.Entries) != a.request.B-a.request.A {
		return api.Outcome{}, api.ErrClientReply
	}
	return t.run(a.request.Size, a.request.A, r)
}

// run are a reply's entries, from the first one's index on, in the log of a size that is trusted.
func (t turn) run(size, first int, r api.Reply) (api.Outcome, api.Errno) {
	h := t.roots.trustedHead(size)
	x := api.Run{Size: size, Begin: first, End: first + len(r.Entries), Hashes: r.Hashes}
	if span.Check(x, leavesOf(r.Entries), h.Root) != api.OK {
		return api.Outcome{}, api.ErrClientProof
	}
	return api.Outcome{Head: h, First: first, Entries: r.Entries}, api.OK
}

func leavesOf(entries []string) []string {
	l := make([]string, len(entries))
	for i, entry := range entries {
		l[i] = digest.Leaf(entry)
	}
	return l
}

func (t turn) open(a ask, r api.Reply) (api.Outcome, api.Errno) {
	if _, there := t.streams[r.A]; there {
		return api.Outcome{}, api.ErrClientReply
	}
	t.streams[r.A] = stream{size: a.request.Size, next: a.request.A, end: a.request.B}
	return api.Outcome{First: r.A, Head: t.roots.trustedHead(a.request.Size)}, api.OK
}

func (t turn) pull(a ask, r api.Reply) (api.Outcome, api.Errno) {
	number := a.request.A
	s := t.streams[number]
	behind := s.next + len(r.Entries)
	over := behind == s.end
	if r.A != s.next || len(r.Entries) == 0 || behind > s.end || (r.B == 1) != over {
		return api.Outcome{}, api.ErrClientReply
	}
	o, e := t.run(s.size, s.next, r)
	if e != api.OK {
		return api.Outcome{}, e
	}
	s.next, o.Over = behind, over
	t.streams[number] = s
	if over {
		delete(t.streams, number)
	}
	return o, api.OK
}

// leave lets a stream be there no more.
func (t turn) leave(a ask, _ api.Reply) (api.Outcome, api.Errno) {
	delete(t.streams, a.request.A)
	return api.Outcome{First: a.request.A}, api.OK
}
