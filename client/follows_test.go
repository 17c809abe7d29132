package client_test

import (
	"maps"
	"math/rand"
	"slices"
	"strconv"
	"testing"

	"scrivener/api"
	"scrivener/device"
	"scrivener/message"
	"scrivener/server"
	"scrivener/store"
)

// What follows: C6, and with it P1 and P7 of the whole as far as they speak of clients.

// host is a server over a log, with the entries that were appended, and the head of each size. Clients are in the session 1, others in the session 2.
type host struct {
	server *server.Server
	face
	heads []api.Head
}

func hostOf(t *testing.T, l api.Limits) *host {
	t.Helper()
	d, _ := device.New(400)
	store.Format(d)
	s, e := store.Open(d)
	if e != api.OK {
		t.Fatalf("chapter 10: Open: %d", e)
	}
	v, e := server.New(s, l)
	if e != api.OK {
		t.Fatalf("chapter 18: New: %d", e)
	}
	v.Connect()
	v.Connect()
	return &host{v, faceOf(), []api.Head{empty}}
}

// step takes a frame of a session.
func (h *host) step(session int, frame string) string {
	f := h.server.Step(session, frame)
	r, _, e := message.Decode(frame)
	x, _, g := message.DecodeReply(api.AskAppend, f)
	if e == api.OK && g == api.OK && x.Status == api.Done {
		h.take(r.Entries)
	}
	return f
}

func (h *host) take(entries []string) {
	for _, x := range entries {
		h.entries, h.leaves = append(h.entries, x), append(h.leaves, leafOf(x))
		h.tree.Add(leafOf(x))
		h.heads = append(h.heads, h.face.head(len(h.entries)))
	}
}

// grow appends some entries by others.
func (h *host) grow(t *testing.T, l ...string) {
	t.Helper()
	was := len(h.entries)
	f, _ := message.Encode(appends(l...))
	h.step(2, f)
	if len(h.entries) != was+len(l) {
		t.Fatalf("chapter 18: Append of %d", len(l))
	}
}

// head is that of a size.
func (h *host) head(size int) api.Head { return h.heads[size] }

// truth is what an outcome must tell of a request that a log can answer, by layer 3 and the entries. What hangs on the session is not in it.
func (h *host) truth(r api.Request) api.Outcome {
	o := api.Outcome{Kind: r.Kind}
	switch r.Kind {
	case api.AskHead:
		o.Head = h.head(len(h.entries))
		return o
	case api.AskAppend:
		o.Head, o.First = h.head(len(h.entries)), len(h.entries)-len(r.Entries)
		return o
	case api.AskGroup:
		for _, one := range r.Asks {
			o.Outcomes = append(o.Outcomes, h.truth(one))
		}
		return o
	case api.AskInclusion:
		o.Paths = [][]string{h.path(r.A, r.Size).Hashes}
	case api.AskBatch:
		for _, i := range r.List {
			o.Paths = append(o.Paths, h.path(i, r.Size).Hashes)
		}
	case api.AskConsistency:
		o.Proofs = [][]string{h.proof(r.A, r.Size).Hashes}
	case api.AskChain:
		for i := range len(r.List) - 1 {
			o.Proofs = append(o.Proofs, h.proof(r.List[i], r.List[i+1]).Hashes)
		}
	case api.AskEntries:
		o.First, o.Entries = r.A, h.entries[r.A:r.B]
	}
	o.Head = h.head(sizeOf(r))
	return o
}

// leavesOf are those of a request, as the log has them; where it has none, others.
func (h *host) leavesOf(r api.Request) []string {
	var l []string
	for _, one := range ones(r) {
		indices := one.List
		switch one.Kind {
		case api.AskInclusion:
			indices = []int{one.A}
		case api.AskBatch:
		default:
			continue
		}
		for _, i := range indices {
			if i < len(h.entries) {
				l = append(l, leafOf(h.entries[i]))
			} else {
				l = append(l, hashOf(strconv.Itoa(i)))
			}
		}
	}
	return l
}

// sizesOf are those that a model trusts, or also those that it has heard, rising, above 0.
func sizesOf(m *model, heard bool) []int {
	l := slices.Collect(maps.Keys(m.trusted))
	if heard {
		l = slices.AppendSeq(l, maps.Keys(m.heard))
	}
	slices.Sort(l)
	if len(l) > 1 && l[0] == 0 {
		return l[1:]
	}
	return l
}

func one(r *rand.Rand, l []int) int { return l[r.Intn(len(l))] }

// someOf are up to so many of a list, rising.
func someOf(r *rand.Rand, l []int, most int) []int {
	var some []int
	for range 1 + r.Intn(most) {
		some = append(some, one(r, l))
	}
	slices.Sort(some)
	return slices.Compact(some)
}

// below are the numbers below n.
func below(n int) []int {
	l := make([]int, n)
	for i := range l {
		l[i] = i
	}
	return l
}

// askOf is an ask of the kinds 3 to 7 that a client can hold and the log can answer, if there is one.
func askOf(r *rand.Rand, m *model, size int) api.Request {
	trusted, known := sizesOf(m, false), sizesOf(m, true)
	n := one(r, trusted)
	kind := 3 + r.Intn(5)
	if n == 0 {
		kind = api.AskRoot
	}
	switch kind {
	case api.AskInclusion:
		return inclusion(r.Intn(n), n)
	case api.AskConsistency:
		other := one(r, known)
		return consistency(min(n, other), max(n, other))
	case api.AskBatch:
		return many(n, someOf(r, below(n), 9)...)
	case api.AskChain:
		l := append(someOf(r, known, 9), n)
		slices.Sort(l)
		return heads(slices.Compact(l)...)
	}
	return root(r.Intn(size + 1))
}

// requestOf is one of any kind, likewise.
func requestOf(r *rand.Rand, m *model, size int) api.Request {
	n := one(r, sizesOf(m, false))
	streams := slices.Sorted(maps.Keys(m.lots))
	switch kind := 1 + r.Intn(14); {
	case kind == api.AskAppend:
		return appends(words(r)...)
	case kind == api.AskHead:
		return head()
	case (kind == api.AskEntries || kind == api.AskOpen) && n > 0:
		a := r.Intn(n)
		x := opens(a, a+1+r.Intn(n-a), n)
		x.Kind = kind
		return x
	case (kind == api.AskPull || kind > api.AskGroup) && len(streams) > 0:
		return pulls(one(r, streams))
	case kind == api.AskClose && len(streams) > 0 && r.Intn(3) == 0:
		return closes(one(r, streams))
	case kind == api.AskGroup:
		var l []api.Request
		for range 1 + r.Intn(6) {
			l = append(l, askOf(r, m, size))
		}
		return groups(l...)
	}
	return askOf(r, m, size)
}

// words are some entries.
func words(r *rand.Rand) []string {
	var l []string
	for range 1 + r.Intn(4) {
		b := make([]byte, r.Intn(12))
		r.Read(b)
		l = append(l, string(b))
	}
	return l
}

// A client that trusts a head of the log is told the truth: all that the log can answer is taken, and is what layer 3 says; whatever the budget, whatever is asked together, though the log grows.
func TestHonestServers(t *testing.T) {
	r := rand.New(rand.NewSource(26))
	rounds, steps := 30, 400
	if testing.Short() {
		rounds = 4
	}
	done := map[int]int{}
	for round := range rounds {
		h := hostOf(t, api.Limits{Budget: []int{0, 50, 500, 5000, 1 << 24}[round%5], Chunk: 1 + r.Intn(40), Capacity: 120, Entries: 120})
		for range r.Intn(40) {
			h.grow(t, words(r)...)
		}
		first := r.Intn(len(h.entries) + 1)
		p := begin(t, h.head(first))
		for range steps {
			if r.Intn(20) == 0 && len(h.entries) < 100 {
				h.grow(t, words(r)...)
			}
			x := requestOf(r, p.model, len(h.entries))
			if x.Kind == api.AskAppend && len(h.entries) > 110 || x.Kind == api.AskOpen && len(p.model.lots) == 8 {
				continue
			}
			p.tellsTruth(t, h, x)
			done[x.Kind]++
		}
	}
	for kind := api.AskAppend; kind <= api.AskGroup; kind++ {
		if done[kind] == 0 {
			t.Errorf("no request of the kind %d was made", kind)
		}
	}
}

// tellsTruth asks what the log can answer.
func (p pair) tellsTruth(t *testing.T, h *host, r api.Request) {
	t.Helper()
	stream := p.model.lots[r.A]
	f := p.asks(t, r, h.leavesOf(r)...)
	o, e := p.take(t, h.step(1, f))
	if e != api.OK {
		t.Fatalf("C6: %v of a log of %d: %d", r, len(h.entries), e)
	}
	want := h.truth(r)
	switch r.Kind {
	case api.AskOpen:
		want.First = o.First
	case api.AskPull:
		to := stream.next + len(o.Entries)
		want.First, want.Head, want.Entries, want.Over = stream.next, h.head(stream.size), h.entries[stream.next:to], to == stream.end
	case api.AskClose:
		want.First, want.Head = r.A, api.Head{}
	}
	if !is(o, want) {
		t.Fatalf("C6: %v of a log of %d: %s, want %s", r, len(h.entries), shown(o), shown(want))
	}
	for size, root := range p.model.trusted {
		if h.head(size).Root != root {
			t.Fatalf("C6: the root of %d is not the log's", size)
		}
	}
}

// What the log can't answer is told by a status, and changes nothing.
func TestStatuses(t *testing.T) {
	h := hostOf(t, api.Limits{Budget: 100, Chunk: 20, Capacity: 12, Entries: 3})
	for i := range 9 {
		h.grow(t, "entry "+strconv.Itoa(i))
	}
	p := begin(t, h.head(9))
	p.hears(t, api.Head{Size: 30, Root: hashOf("x")})
	p.hears(t, empty)
	for i := range 8 {
		p.tellsTruth(t, h, opens(i, 9, 9))
	}
	for _, r := range []api.Request{
		appends("a", "b", "c", "d"), appends(string(make([]byte, 1001))), root(10), root(1 << 40), inclusion(9, 9), many(9, 0, 9), consistency(0, 9), consistency(9, 30),
		heads(9, 30), heads(0, 9), entries(0, 4, 9), entries(3, 3, 9), entries(3, 2, 9), entries(8, 10, 9), opens(0, 1, 9), opens(2, 1, 9), groups(root(1), root(10)), groups(root(10)),
	} {
		f := p.asks(t, r, h.leavesOf(r)...)
		if _, e := p.take(t, h.step(1, f)); e != api.ErrClientStatus {
			t.Errorf("C3: %v: %d", r, e)
		}
	}
	f := p.asks(t, head())
	if _, e := p.take(t, h.server.Step(9, f)); e != api.ErrClientStatus {
		t.Errorf("C3: in no session: %d", e)
	}
	p.asks(t, head())
	if _, e := p.take(t, h.step(1, "x")); e != api.ErrClientStatus {
		t.Errorf("C3: of no request: %d", e)
	}
}

// liar is a log of two faces, of which anything may come.
type liar struct {
	faces [2]*host
	rate  int // of a hundred replies so many are not the first face's
}

// reply is some frame, to the one of a client.
func (l liar) reply(r *rand.Rand, kind int, frame string) string {
	told := [2]string{l.faces[0].step(1, frame), l.faces[1].step(1, frame)}
	if r.Intn(100) >= l.rate {
		return told[0]
	}
	switch r.Intn(5) {
	case 0, 1:
		return told[1]
	case 2:
		return l.faces[0].server.Step(7, frame)
	}
	return twisted(r, kind, told[r.Intn(2)])
}

// twisted is a reply's frame of which something is otherwise.
func twisted(r *rand.Rand, kind int, frame string) string {
	x, _, e := message.DecodeReply(kind, frame)
	if e == api.OK && r.Intn(8) > 0 {
		if f, e := message.EncodeReply(kind, twist(r, x)); e == api.OK {
			return f
		}
	}
	b := []byte(frame)
	switch r.Intn(4) {
	case 0:
		return frame[:r.Intn(len(frame))]
	case 1:
		return frame + frame
	case 2:
		b[r.Intn(len(b))] ^= 1 << r.Intn(8)
	case 3:
		b[r.Intn(len(b))] = byte(r.Intn(14))
	}
	return string(b)
}

// twist changes one thing of a reply.
func twist(r *rand.Rand, x api.Reply) api.Reply {
	switch r.Intn(9) {
	case 0:
		x.Size = max(0, x.Size+r.Intn(5)-2)
	case 1:
		x.A = max(0, x.A+r.Intn(5)-2)
	case 2:
		x.B = 1 - x.B
	case 3:
		x.Root = hashOf("x")
	case 4:
		l := others(x.Hashes, hashOf("x"))
		x.Hashes = l[r.Intn(len(l))]
	case 5:
		l := others(x.Entries, "x")
		x.Entries = l[r.Intn(len(l))]
	case 6:
		by := r.Intn(7) - 3
		x.Size, x.A = max(0, x.Size+by), max(0, x.A+by)
	default:
		if n := len(x.Replies); n > 0 {
			x.Replies = slices.Clone(x.Replies)
			i := r.Intn(n)
			switch r.Intn(6) {
			case 0:
				x.Replies = slices.Delete(x.Replies, i, i+1)
			case 1:
				x.Replies = append(x.Replies, x.Replies[i])
			case 2:
				x.Replies[0], x.Replies[i] = x.Replies[i], x.Replies[0]
			default:
				x.Replies[i] = twist(r, x.Replies[i])
			}
			return x
		}
		return only(api.Status(r.Intn(9)))
	}
	return x
}

// anyRequest is one that may not be held, too, or that no log can answer.
func anyRequest(r *rand.Rand, m *model, size int) api.Request {
	x := requestOf(r, m, size)
	if r.Intn(6) > 0 {
		return x
	}
	if n := len(x.Asks); n > 0 {
		x.Asks[r.Intn(n)] = root(r.Intn(3))
		x.Asks[r.Intn(n)] = inclusion(r.Intn(size+1), r.Intn(size+1))
		return x
	}
	near := func(n int) int { return max(0, n+r.Intn(5)-2) }
	x.Size, x.A, x.B = near(x.Size), near(x.A), near(x.B)
	if len(x.List) > 0 {
		l := slices.Clone(x.List)
		l[r.Intn(len(l))] = r.Intn(size + 3)
		slices.Sort(l)
		x.List = slices.Compact(l)
	}
	return x
}

// Whatever comes from whoever it be: the client is what the model says, and what it trusts is joined by proofs to what it trusted first.
func TestWhateverComes(t *testing.T) {
	r := rand.New(rand.NewSource(27))
	rounds, steps := 80, 500
	if testing.Short() {
		rounds = 8
	}
	seen := map[[2]int]int{}
	for round := range rounds {
		limits := api.Limits{Budget: 300, Chunk: 1 + r.Intn(40), Capacity: 80, Entries: 20}
		l := liar{[2]*host{hostOf(t, limits), hostOf(t, limits)}, []int{5, 20, 50, 90}[round%4]}
		for range 1 + r.Intn(10) {
			w := words(r)
			l.faces[0].grow(t, w...)
			l.faces[1].grow(t, w...)
		}
		first := r.Intn(len(l.faces[0].entries) + 1)
		if round%3 == 0 {
			first = 0
		}
		p := begin(t, l.faces[0].head(first))
		for range steps {
			l.parts(t, r)
			p.comes(t, r, l, seen)
			if first == 0 {
				first = p.client.Head().Size
			}
			p.isOneFace(t, first, l)
		}
	}
	for kind, errors := range map[int][]api.Errno{
		api.AskAppend: {api.ErrClientFork}, api.AskHead: {api.ErrClientFork}, api.AskRoot: {api.ErrClientFork},
		api.AskInclusion: {api.ErrClientProof}, api.AskConsistency: {api.ErrClientProof}, api.AskBatch: {api.ErrClientProof}, api.AskChain: {api.ErrClientProof},
		api.AskEntries: {api.ErrClientProof}, api.AskOpen: nil, api.AskPull: {api.ErrClientProof}, api.AskClose: nil, api.AskGroup: {api.ErrClientProof, api.ErrClientFork},
	} {
		for _, e := range append(errors, api.OK, api.ErrClientReply, api.ErrClientStatus, api.ErrClientTurn) {
			always := kind == api.AskAppend || kind == api.AskHead || kind == api.AskRoot // can be held
			if seen[[2]int{kind, int(e)}] == 0 && !testing.Short() && !(always && e == api.ErrClientTurn) {
				t.Errorf("no request of the kind %d had the error %d", kind, e)
			}
		}
	}
}

// parts lets the faces grow, alike or not.
func (l liar) parts(t *testing.T, r *rand.Rand) {
	t.Helper()
	if r.Intn(15) > 0 || max(len(l.faces[0].entries), len(l.faces[1].entries)) > 70 {
		return
	}
	w := words(r)
	l.faces[0].grow(t, w...)
	if r.Intn(2) == 0 {
		w = words(r)
	}
	l.faces[1].grow(t, w...)
}

// comes asks something, and takes whatever comes.
func (p pair) comes(t *testing.T, r *rand.Rand, l liar, seen map[[2]int]int) {
	t.Helper()
	x := anyRequest(r, p.model, len(l.faces[0].entries))
	leaves := l.faces[r.Intn(20)/19].leavesOf(x)
	f, e := p.ask(t, x, leaves...)
	if e != api.OK {
		seen[[2]int{x.Kind, int(e)}]++
		return
	}
	if r.Intn(20) == 0 {
		p.ask(t, x, leaves...)
	}
	_, e = p.take(t, l.reply(r, x.Kind, f))
	seen[[2]int{x.Kind, int(e)}]++
	if r.Intn(20) == 0 {
		p.take(t, f)
	}
}

// isOneFace holds what a client trusts to the first size above 0 that it trusted: accepted proofs lead from each to that; and each of these proofs is one of a log, as far as the log has told its roots.
func (p pair) isOneFace(t *testing.T, first int, l liar) {
	t.Helper()
	reached := map[int]int{first: 1}
	for range p.model.links {
		was := len(reached)
		for _, x := range p.model.links {
			if reached[x.old.Size]+reached[x.now.Size] > 0 {
				reached[x.old.Size], reached[x.now.Size] = 1, 1
			}
		}
		if len(reached) == was {
			break
		}
	}
	for size := range p.model.trusted {
		if size > 0 && reached[size] == 0 {
			t.Fatalf("C6: no row of proofs leads from %d to %d", size, first)
		}
	}
	if n := len(p.model.links); n > 0 {
		x := p.model.links[n-1]
		for _, h := range l.faces {
			if x.now.Size <= len(h.entries) && h.head(x.now.Size) == x.now && h.head(x.old.Size) != x.old {
				t.Fatalf("P7: a proof from %x was accepted, which is no beginning of %x", x.old, x.now)
			}
		}
	}
}

// A client that has seen what one face alone has never trusts what the other one alone has, whatever it asks, and whatever it is told of which face.
func TestTwoFaces(t *testing.T) {
	const most = 7
	f := numbered("entry", most)
	for split := range most {
		g := faceOf(append(slices.Clone(f.entries[:split]), numbered("other", most).entries[split:]...)...)
		for first := split + 1; first <= most; first++ {
			for other := split + 1; other <= most; other++ {
				p := begin(t, f.head(first))
				p.asks(t, head())
				want := api.OK
				if first == other {
					want = api.ErrClientFork
				}
				if _, e := p.answered(t, api.Reply{Size: other, Root: g.head(other).Root}); e != want {
					t.Errorf("P7: the other face's head of %d to one who trusts %d: %d", other, first, e)
				}
				if first == other {
					continue
				}
				for _, told := range []face{f, g} {
					p.asks(t, consistency(min(first, other), max(first, other)))
					if _, e := p.answered(t, told.proof(min(first, other), max(first, other))); e != api.ErrClientProof {
						t.Errorf("P7: from %d to the other face's %d: %d", first, other, e)
					}
					p.asks(t, heads(min(first, other), max(first, other)))
					if _, e := p.answered(t, told.chain(min(first, other), max(first, other))); e != api.ErrClientProof {
						t.Errorf("P7: a chain from %d to the other face's %d: %d", first, other, e)
					}
				}
				if p.client.Head() != f.head(first) {
					t.Errorf("P7: it trusts %x", p.client.Head())
				}
			}
		}
	}
}

// What is expanded of a group's replies is what each ask alone tells.
func TestTogetherAsAlone(t *testing.T) {
	r := rand.New(rand.NewSource(28))
	for _, budget := range []int{0, 200, 1 << 20} {
		h := hostOf(t, api.Limits{Budget: budget, Chunk: 10, Capacity: 100, Entries: 10})
		for range 20 {
			h.grow(t, words(r)...)
		}
		size := len(h.entries)
		together, alone := begin(t, h.head(size)), begin(t, h.head(size))
		for n := range size {
			together.tellsTruth(t, h, root(n))
			alone.tellsTruth(t, h, root(n))
		}
		for range 30 {
			var asks []api.Request
			for range 1 + r.Intn(64) {
				asks = append(asks, askOf(r, together.model, size))
			}
			x := groups(asks...)
			o, e := together.take(t, h.step(1, together.asks(t, x, h.leavesOf(x)...)))
			if e != api.OK || len(o.Outcomes) != len(asks) {
				t.Fatalf("P1: %v: %s, %d", x, shown(o), e)
			}
			for i, y := range asks {
				if p, e := alone.take(t, h.step(1, alone.asks(t, y, h.leavesOf(y)...))); e != api.OK || !is(p, o.Outcomes[i]) {
					t.Fatalf("P1: %v: %s, %d, and together %s", y, shown(p), e, shown(o.Outcomes[i]))
				}
			}
		}
	}
}
