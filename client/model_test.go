package client_test

import (
	"crypto/sha256"
	"fmt"
	"maps"
	"slices"
	"testing"

	"scrivener/api"
	"scrivener/client"
	"scrivener/message"
)

// The model takes the words as they stand: it is copied as a whole ahead of what may go wrong, and goes down from each root by the recursive definitions. Of the layers below it takes frames alone (layer 17).

func hashOf(text string) string {
	h := sha256.Sum256([]byte(text))
	return string(h[:])
}

func leafOf(entry string) string { return hashOf("\x00" + entry) }

func node(left, right string) string { return hashOf("\x01" + left + right) }

func leavesOf(entries []string) []string {
	l := make([]string, len(entries))
	for i, e := range entries {
		l[i] = leafOf(e)
	}
	return l
}

func at(b, e int) api.Span { return api.Span{Begin: b, End: e} }

// half is the greatest power of two below n.
func half(n int) int {
	k := 1
	for 2*k < n {
		k *= 2
	}
	return k
}

func parts(s api.Span) (api.Span, api.Span) {
	middle := s.Begin + half(s.End-s.Begin)
	return at(s.Begin, middle), at(middle, s.End)
}

// last is the last one of a list, and those ahead of it.
func last(l []string) (string, []string, bool) {
	if len(l) == 0 {
		return "", nil, false
	}
	return l[len(l)-1], l[:len(l)-1], true
}

// pathRoot is the root of n leaves to which the path of the leaf m leads; false, if it has another length.
func pathRoot(n, m int, leaf string, path []string) (string, bool) {
	if n == 1 {
		return leaf, len(path) == 0
	}
	side, rest, ok := last(path)
	if !ok {
		return "", false
	}
	if k := half(n); m < k {
		r, ok := pathRoot(k, m, leaf, rest)
		return node(r, side), ok
	} else {
		r, ok := pathRoot(n-k, m-k, leaf, rest)
		return node(side, r), ok
	}
}

// proofRoots are the roots of m and of n leaves to which a proof leads; whole, if the old root is that of these m.
func proofRoots(m, n int, whole bool, old string, proof []string) (string, string, bool) {
	if m == n && whole {
		return old, old, len(proof) == 0
	}
	side, rest, ok := last(proof)
	switch {
	case !ok:
		return "", "", false
	case m == n:
		return side, side, len(rest) == 0
	case m <= half(n):
		a, b, ok := proofRoots(m, half(n), whole, old, rest)
		return a, node(b, side), ok
	}
	a, b, ok := proofRoots(m-half(n), n-half(n), false, old, rest)
	return node(side, a), node(side, b), ok
}

// takesProof tells whether a proof leads from the one head to the other.
func takesProof(old, now api.Head, proof []string) bool {
	if old.Size < 1 || old.Size > now.Size {
		return false
	}
	a, b, ok := proofRoots(old.Size, now.Size, true, old.Root, proof)
	return ok && a == old.Root && b == now.Root
}

// forest are the hashes of subtrees, told or worked out.
type forest map[api.Span]string

// grow works the hash of a subtree out: leaves are by their index, told are the hashes of the greatest subtrees that have none of them, from the left. It answers those that are left.
func (f forest) grow(s api.Span, leaves map[int]string, has func(s api.Span) bool, told []string) ([]string, bool) {
	switch {
	case !has(s) && len(told) == 0:
		return nil, false
	case !has(s):
		f[s] = told[0]
		return told[1:], true
	case s.End-s.Begin == 1:
		f[s] = leaves[s.Begin]
		return told, true
	}
	left, right := parts(s)
	told, ok := f.grow(left, leaves, has, told)
	if !ok {
		return nil, false
	}
	told, ok = f.grow(right, leaves, has, told)
	f[s] = node(f[left], f[right])
	return told, ok
}

// path is that of a leaf, out of what has grown.
func (f forest) path(s api.Span, index int) []string {
	if s.End-s.Begin == 1 {
		return nil
	}
	left, right := parts(s)
	if index < left.End {
		return append(f.path(left, index), f[right])
	}
	return append(f.path(right, index), f[left])
}

// grown is the forest of some leaves of a size, if it leads to the root.
func grown(h api.Head, indices []int, leaves, told []string) (forest, bool) {
	if h.Size < 1 || len(indices) == 0 || indices[0] < 0 || indices[len(indices)-1] >= h.Size {
		return nil, false
	}
	by := map[int]string{}
	for i, index := range indices {
		by[index] = leaves[i]
	}
	has := func(s api.Span) bool {
		i, _ := slices.BinarySearch(indices, s.Begin)
		return i < len(indices) && indices[i] < s.End
	}
	f := forest{}
	left, ok := f.grow(at(0, h.Size), by, has, told)
	return f, ok && len(left) == 0 && f[at(0, h.Size)] == h.Root
}

// proofSpans are those of the proof that the leaves up to first are a beginning of a subtree; known, if the one that asks has the subtree's root himself.
func proofSpans(on api.Span, first int, known bool) []api.Span {
	if first == on.End {
		if known {
			return nil
		}
		return []api.Span{on}
	}
	left, right := parts(on)
	if first <= left.End {
		return append(proofSpans(left, first, known), right)
	}
	return append(proofSpans(right, first, false), left)
}

// folded is the hash of a subtree out of those of others, if it can be.
func (f forest) folded(s api.Span) (string, bool) {
	if h, ok := f[s]; ok || s.End-s.Begin < 2 {
		return h, ok
	}
	left, right := parts(s)
	a, ok := f.folded(left)
	if !ok {
		return "", false
	}
	b, ok := f.folded(right)
	return node(a, b), ok
}

// chainProofs are the proofs of each pair that a chain tells, if it leads from head to head.
func chainProofs(heads []api.Head, told []string) ([][]string, bool) {
	if heads[0].Size < 1 {
		return nil, false
	}
	f := forest{}
	var proofs [][]string
	for i := range len(heads) - 1 {
		var proof []string
		for _, s := range proofSpans(at(0, heads[i+1].Size), heads[i].Size, true) {
			h, ok := f.folded(s)
			if !ok && len(told) == 0 {
				return nil, false
			}
			if !ok {
				h, told = told[0], told[1:]
				f[s] = h
			}
			proof = append(proof, h)
		}
		if !takesProof(heads[i], heads[i+1], proof) {
			return nil, false
		}
		proofs = append(proofs, proof)
	}
	return proofs, len(told) == 0
}

// lot is a stream that was opened, or the rest of it.
type lot struct{ size, next, end int }

// link is a proof that was accepted, between two heads.
type link struct{ old, now api.Head }

// model is a client by the words.
type model struct {
	trusted, heard map[int]string
	lots           map[int]lot
	links          []link
	waits          bool
	request        api.Request
	leaves         []string
}

func newModel(h api.Head) *model {
	return &model{trusted: map[int]string{h.Size: h.Root}, heard: map[int]string{}, lots: map[int]lot{}}
}

// copied is the model as it is, with nothing in common.
func (m *model) copied() model {
	c := *m
	c.trusted, c.heard, c.lots = maps.Clone(m.trusted), maps.Clone(m.heard), maps.Clone(m.lots)
	c.links = slices.Clone(m.links)
	return c
}

func copied(r api.Request) api.Request {
	r.List, r.Entries, r.Asks = slices.Clone(r.List), slices.Clone(r.Entries), slices.Clone(r.Asks)
	for i := range r.Asks {
		r.Asks[i] = copied(r.Asks[i])
	}
	return r
}

// ones are the asks of a group, or the request itself.
func ones(r api.Request) []api.Request {
	if r.Kind == api.AskGroup {
		return r.Asks
	}
	return []api.Request{r}
}

// wants is how many leaves a request has.
func wants(r api.Request) int {
	n := 0
	for _, one := range ones(r) {
		switch one.Kind {
		case api.AskInclusion:
			n++
		case api.AskBatch:
			n += len(one.List)
		}
	}
	return n
}

func isHash(s string) bool { return len(s) == 32 }

func (m *model) trusts(size int) bool {
	_, ok := m.trusted[size]
	return ok
}

// known is the root of a size, as it is trusted or heard.
func (m *model) known(size int) (api.Head, bool) {
	root, ok := m.trusted[size]
	if !ok {
		root, ok = m.heard[size]
	}
	return api.Head{Size: size, Root: root}, ok
}

func (m *model) allKnown(sizes []int) ([]api.Head, bool) {
	var l []api.Head
	for _, size := range sizes {
		h, ok := m.known(size)
		if !ok {
			return nil, false
		}
		l = append(l, h)
	}
	return l, true
}

func (m *model) canBeHeld(r api.Request) bool {
	sizes := r.List
	switch r.Kind {
	case api.AskInclusion, api.AskBatch, api.AskEntries, api.AskOpen:
		return m.trusts(r.Size)
	case api.AskConsistency:
		sizes = []int{r.A, r.Size}
		fallthrough
	case api.AskChain:
		_, ok := m.allKnown(sizes)
		return ok && slices.ContainsFunc(sizes, m.trusts)
	case api.AskPull, api.AskClose:
		_, ok := m.lots[r.A]
		return ok
	}
	return true
}

func (m *model) ask(r api.Request, leaves []string) (string, api.Errno) {
	if m.waits {
		return "", api.ErrClientTurn
	}
	frame, e := message.Encode(r)
	if e != api.OK {
		return "", e
	}
	if len(leaves) != wants(r) || slices.ContainsFunc(leaves, func(s string) bool { return !isHash(s) }) {
		return "", api.ErrArg
	}
	for _, one := range ones(r) {
		if !m.canBeHeld(one) {
			return "", api.ErrClientTurn
		}
	}
	m.waits, m.request, m.leaves = true, copied(r), slices.Clone(leaves)
	return frame, api.OK
}

func (m *model) take(frame string) (api.Outcome, api.Errno) {
	if !m.waits {
		return api.Outcome{}, api.ErrClientTurn
	}
	m.waits = false
	if _, rest, e := message.DecodeReply(0, frame); e == api.OK && rest == "" {
		return api.Outcome{}, api.ErrClientStatus
	}
	x, rest, e := message.DecodeReply(m.request.Kind, frame)
	if e != api.OK || rest != "" {
		return api.Outcome{}, api.ErrClientReply
	}
	if x.Status != api.Done || slices.ContainsFunc(x.Replies, func(y api.Reply) bool { return y.Status != api.Done }) {
		return api.Outcome{}, api.ErrClientStatus
	}
	was := m.copied()
	o, e := m.whole(x)
	if e != api.OK {
		*m = was
		return api.Outcome{}, e
	}
	return o, api.OK
}

// whole looks at a reply, to a group or not.
func (m *model) whole(x api.Reply) (api.Outcome, api.Errno) {
	r, leaves := m.request, m.leaves
	if r.Kind != api.AskGroup {
		return m.look(r, leaves, x)
	}
	if len(x.Replies) != len(r.Asks) {
		return api.Outcome{}, api.ErrClientReply
	}
	for i, one := range r.Asks {
		if one.Kind == api.AskRoot && x.Replies[i].Root == "" || one.Kind != api.AskRoot && x.Replies[i].Root != "" {
			return api.Outcome{}, api.ErrClientReply
		}
	}
	o := api.Outcome{Kind: api.AskGroup}
	for i, one := range r.Asks {
		p, e := m.look(one, leaves[:wants(one)], x.Replies[i])
		if e != api.OK {
			return api.Outcome{}, e
		}
		leaves = leaves[wants(one):]
		o.Outcomes = append(o.Outcomes, p)
	}
	return o, api.OK
}

func (m *model) look(r api.Request, leaves []string, x api.Reply) (api.Outcome, api.Errno) {
	switch r.Kind {
	case api.AskAppend:
		if x.A+len(r.Entries) != x.Size {
			return api.Outcome{}, api.ErrClientReply
		}
		o, e := m.told(r.Kind, api.Head{Size: x.Size, Root: x.Root})
		o.First = x.A
		return o, e
	case api.AskHead:
		return m.told(r.Kind, api.Head{Size: x.Size, Root: x.Root})
	case api.AskRoot:
		return m.told(r.Kind, api.Head{Size: r.Size, Root: x.Root})
	case api.AskInclusion, api.AskBatch:
		return m.paths(r, leaves, x)
	case api.AskConsistency, api.AskChain:
		return m.proofs(r, x)
	case api.AskEntries:
		if len(x.Entries) != r.B-r.A {
			return api.Outcome{}, api.ErrClientReply
		}
		return m.run(r.Kind, r.Size, r.A, x)
	case api.AskOpen:
		if _, there := m.lots[x.A]; there {
			return api.Outcome{}, api.ErrClientReply
		}
		m.lots[x.A] = lot{r.Size, r.A, r.B}
		return api.Outcome{Kind: r.Kind, First: x.A, Head: api.Head{Size: r.Size, Root: m.trusted[r.Size]}}, api.OK
	case api.AskPull:
		return m.pull(r, x)
	}
	delete(m.lots, r.A)
	return api.Outcome{Kind: r.Kind, First: r.A}, api.OK
}

func (m *model) told(kind int, h api.Head) (api.Outcome, api.Errno) {
	root, trusted := m.trusted[h.Size]
	onlyEmpty := slices.Equal(slices.Collect(maps.Keys(m.trusted)), []int{0})
	switch {
	case trusted && root != h.Root, h.Size == 0 && h.Root != hashOf(""):
		return api.Outcome{}, api.ErrClientFork
	case onlyEmpty && h.Size > 0 && kind != api.AskRoot:
		m.trust(h)
	case !trusted:
		m.heard[h.Size] = h.Root
	}
	return api.Outcome{Kind: kind, Head: h}, api.OK
}

func (m *model) trust(h api.Head) {
	m.trusted[h.Size] = h.Root
	delete(m.heard, h.Size)
}

func (m *model) paths(r api.Request, leaves []string, x api.Reply) (api.Outcome, api.Errno) {
	h := api.Head{Size: r.Size, Root: m.trusted[r.Size]}
	o := api.Outcome{Kind: r.Kind, Head: h}
	if r.Kind == api.AskInclusion {
		if r.A >= r.Size {
			return api.Outcome{}, api.ErrClientProof
		}
		if root, ok := pathRoot(r.Size, r.A, leaves[0], x.Hashes); !ok || root != h.Root {
			return api.Outcome{}, api.ErrClientProof
		}
		o.Paths = [][]string{x.Hashes}
		return o, api.OK
	}
	f, ok := grown(h, r.List, leaves, x.Hashes)
	if !ok {
		return api.Outcome{}, api.ErrClientProof
	}
	for _, index := range r.List {
		o.Paths = append(o.Paths, f.path(at(0, r.Size), index))
	}
	return o, api.OK
}

func (m *model) proofs(r api.Request, x api.Reply) (api.Outcome, api.Errno) {
	sizes := r.List
	if r.Kind == api.AskConsistency {
		sizes = []int{r.A, r.Size}
	}
	heads, _ := m.allKnown(sizes)
	proofs, ok := [][]string{x.Hashes}, false
	if r.Kind == api.AskConsistency {
		ok = takesProof(heads[0], heads[1], x.Hashes)
	} else {
		proofs, ok = chainProofs(heads, x.Hashes)
	}
	if !ok {
		return api.Outcome{}, api.ErrClientProof
	}
	for i, h := range heads {
		m.trust(h)
		if i > 0 {
			m.links = append(m.links, link{heads[i-1], h})
		}
	}
	return api.Outcome{Kind: r.Kind, Head: heads[len(heads)-1], Proofs: proofs}, api.OK
}

func (m *model) run(kind, size, first int, x api.Reply) (api.Outcome, api.Errno) {
	h := api.Head{Size: size, Root: m.trusted[size]}
	var indices []int
	for i := range x.Entries {
		indices = append(indices, first+i)
	}
	if _, ok := grown(h, indices, leavesOf(x.Entries), x.Hashes); !ok {
		return api.Outcome{}, api.ErrClientProof
	}
	return api.Outcome{Kind: kind, Head: h, First: first, Entries: x.Entries}, api.OK
}

func (m *model) pull(r api.Request, x api.Reply) (api.Outcome, api.Errno) {
	s := m.lots[r.A]
	n := len(x.Entries)
	if x.A != s.next || n == 0 || n > s.end-s.next || x.B == 1 && n != s.end-s.next || x.B != 1 && n == s.end-s.next {
		return api.Outcome{}, api.ErrClientReply
	}
	o, e := m.run(r.Kind, s.size, s.next, x)
	if e != api.OK {
		return api.Outcome{}, e
	}
	s.next += n
	m.lots[r.A] = s
	if s.next == s.end {
		o.Over = true
		delete(m.lots, r.A)
	}
	return o, api.OK
}

func (m *model) head() api.Head {
	size := slices.Max(slices.Collect(maps.Keys(m.trusted)))
	return api.Head{Size: size, Root: m.trusted[size]}
}

// sameLists tells whether two lists of lists are the same, wherever nil stands.
func sameLists(a, b [][]string) bool { return slices.EqualFunc(a, b, slices.Equal) }

// is tells whether an outcome is just that.
func is(o, want api.Outcome) bool {
	return o.Kind == want.Kind && o.First == want.First && o.Over == want.Over && o.Head == want.Head && slices.Equal(o.Entries, want.Entries) &&
		sameLists(o.Paths, want.Paths) && sameLists(o.Proofs, want.Proofs) && slices.EqualFunc(o.Outcomes, want.Outcomes, is)
}

// shown is an outcome, readably.
func shown(o api.Outcome) string {
	text := fmt.Sprintf("{kind %d first %d over %v size %d root %x entries %q paths %x proofs %x", o.Kind, o.First, o.Over, o.Head.Size, o.Head.Root, o.Entries, o.Paths, o.Proofs)
	for _, one := range o.Outcomes {
		text += " " + shown(one)
	}
	return text + "}"
}

// pair is a client and its model.
type pair struct {
	client *client.Client
	model  *model
}

func begin(t *testing.T, h api.Head) pair {
	t.Helper()
	c, e := client.New(h)
	if e != api.OK || c == nil {
		t.Fatalf("C1: New(%x): %d", h, e)
	}
	p := pair{c, newModel(h)}
	p.same(t)
	return p
}

// ask asks both.
func (p pair) ask(t *testing.T, r api.Request, leaves ...string) (string, api.Errno) {
	t.Helper()
	f, e := p.client.Ask(r, leaves)
	want, g := p.model.ask(r, leaves)
	if f != want || e != g {
		t.Fatalf("C2: Ask(%v) with %d leaves: %x, %d, want %x, %d", r, len(leaves), f, e, want, g)
	}
	p.same(t)
	return f, e
}

// asks asks both what they do not refuse.
func (p pair) asks(t *testing.T, r api.Request, leaves ...string) string {
	t.Helper()
	f, e := p.ask(t, r, leaves...)
	if e != api.OK {
		t.Fatalf("C2: Ask(%v) with %d leaves: %d", r, len(leaves), e)
	}
	return f
}

// take lets both take a frame.
func (p pair) take(t *testing.T, frame string) (api.Outcome, api.Errno) {
	t.Helper()
	r := p.model.request
	o, e := p.client.Take(frame)
	want, f := p.model.take(frame)
	if !is(o, want) || e != f {
		t.Fatalf("C3, C4: of %x to %v: %s, %d, want %s, %d", frame, r, shown(o), e, shown(want), f)
	}
	p.same(t)
	return o, e
}

// answered takes a reply that is told to the last request.
func (p pair) answered(t *testing.T, x api.Reply) (api.Outcome, api.Errno) {
	t.Helper()
	return p.take(t, replyFrame(t, p.model.request.Kind, x))
}

// takes takes one that is not refused.
func (p pair) takes(t *testing.T, x api.Reply) api.Outcome {
	t.Helper()
	r := p.model.request
	o, e := p.answered(t, x)
	if e != api.OK {
		t.Fatalf("C4: the reply to %v: %d", r, e)
	}
	return o
}

// hears lets both be told a root by the log.
func (p pair) hears(t *testing.T, h api.Head) {
	t.Helper()
	p.asks(t, api.Request{Kind: api.AskRoot, Size: h.Size})
	p.takes(t, api.Reply{Root: h.Root})
}

// same holds what can be seen of a client against the model.
func (p pair) same(t *testing.T) {
	t.Helper()
	if p.client.Waiting() != p.model.waits {
		t.Fatalf("C5: Waiting: %v", p.client.Waiting())
	}
	if h, want := p.client.Head(), p.model.head(); h != want {
		t.Fatalf("C5: Head: %x, want %x", h, want)
	}
	sizes := []int{-1, 0, 1 << 40, 1<<40 + 1, -1 << 63, 1<<63 - 1}
	for size := range p.model.trusted {
		sizes = append(sizes, size-1, size, size+1)
	}
	sizes = slices.AppendSeq(sizes, maps.Keys(p.model.heard))
	for _, size := range sizes {
		root, ok := p.client.Root(size)
		if want, f := p.model.trusted[size]; root != want || ok != f {
			t.Fatalf("C5: Root(%d): %x, %v, want %x, %v", size, root, ok, want, f)
		}
	}
}

// replyFrame is a reply to a kind as a frame.
func replyFrame(t *testing.T, kind int, x api.Reply) string {
	t.Helper()
	f, e := message.EncodeReply(kind, x)
	if e != api.OK {
		t.Fatalf("chapter 17: EncodeReply(%d, %x): %d", kind, x, e)
	}
	return f
}
