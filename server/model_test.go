package server_test

import (
	"crypto/sha256"
	"maps"
	"math/rand"
	"slices"
	"strconv"
	"testing"

	"scrivener/api"
	"scrivener/cache"
	"scrivener/device"
	"scrivener/message"
	"scrivener/plan"
	"scrivener/server"
	"scrivener/store"
	"scrivener/tile"
)

// The model takes the words as they stand: it has the entries as a list, works each proof out of their leaves by the recursive definitions, and asks of a chunk one by one whether it may have so many entries. Of the layers below it takes frames (layer 17), and, for the tally alone, layers 15 and 16.

func hashOf(text string) string {
	h := sha256.Sum256([]byte(text))
	return string(h[:])
}

func leafOf(entry string) string { return hashOf("\x00" + entry) }

func node(left, right string) string { return hashOf("\x01" + left + right) }

func leavesOf(entries []string) []string {
	l := make([]string, len(entries))
	for i, e := range entries {
		l[i] = leafOf(e)
	}
	return l
}

func at(b, e int) api.Span { return api.Span{Begin: b, End: e} }

// half is the greatest power of two below n.
func half(n int) int {
	k := 1
	for 2*k < n {
		k *= 2
	}
	return k
}

func parts(s api.Span) (api.Span, api.Span) {
	middle := s.Begin + half(s.End-s.Begin)
	return at(s.Begin, middle), at(middle, s.End)
}

// rootOf is that of a span of leaves, as a tree of its own.
func rootOf(leaves []string, s api.Span) string {
	switch s.End - s.Begin {
	case 0:
		return hashOf("")
	case 1:
		return leaves[s.Begin]
	}
	left, right := parts(s)
	return node(rootOf(leaves, left), rootOf(leaves, right))
}

func rootsOf(leaves []string, spans []api.Span) []string {
	var l []string
	for _, s := range spans {
		l = append(l, rootOf(leaves, s))
	}
	return l
}

// pathSpans are the subtrees beside the way to a leaf, from below.
func pathSpans(on api.Span, index int) []api.Span {
	if on.End-on.Begin == 1 {
		return nil
	}
	left, right := parts(on)
	if index < left.End {
		return append(pathSpans(left, index), right)
	}
	return append(pathSpans(right, index), left)
}

// proofSpans are those of the proof that the leaves up to first are a beginning of a subtree; known, if the one that asks has the subtree's root himself.
func proofSpans(on api.Span, first int, known bool) []api.Span {
	if first == on.End {
		if known {
			return nil
		}
		return []api.Span{on}
	}
	left, right := parts(on)
	if first <= left.End {
		return append(proofSpans(left, first, known), right)
	}
	return append(proofSpans(right, first, false), left)
}

// besides are the greatest subtrees that have no leaf of those that are asked for, from the left.
func besides(on api.Span, asked func(i int) bool) []api.Span {
	has, all := false, true
	for i := on.Begin; i < on.End; i++ {
		has, all = has || asked(i), all && asked(i)
	}
	switch {
	case !has:
		return []api.Span{on}
	case all:
		return nil
	}
	left, right := parts(on)
	return append(besides(left, asked), besides(right, asked)...)
}

// chainSpans are those of a chain: each that can't be folded of those ahead of it.
func chainSpans(heads []int) []api.Span {
	var told []api.Span
	var folded func(s api.Span) bool
	folded = func(s api.Span) bool {
		if slices.Contains(told, s) {
			return true
		}
		if s.End-s.Begin < 2 {
			return false
		}
		left, right := parts(s)
		return folded(left) && folded(right)
	}
	for i := 1; i < len(heads); i++ {
		for _, s := range proofSpans(at(0, heads[i]), heads[i-1], true) {
			if !folded(s) {
				told = append(told, s)
			}
		}
	}
	return told
}

// lot is a session's stream in the model, or the rest of it.
type lot struct{ size, next, end int }

type party struct {
	last int
	lots map[int]lot
}

// model is a server by the words.
type model struct {
	limits  api.Limits
	entries []string
	free    int // bytes of the store
	doubt   bool
	dies    bool // the device does in the next append
	last    int
	parties map[int]*party
	tree    *tile.Tree // these two for the tally alone
	cache   *cache.Cache
}

func newModel(t *testing.T, pages int, l api.Limits) *model {
	t.Helper()
	tree, e := tile.New(8)
	c, f := cache.New(l.Budget)
	if e != api.OK || f != api.OK {
		t.Fatalf("chapters 7 and 15: %d, %d", e, f)
	}
	return &model{limits: l, free: (pages - 2) * 256, parties: map[int]*party{}, tree: tree, cache: c}
}

func (m *model) size() int { return len(m.entries) }

func (m *model) connect() (int, api.Errno) {
	if len(m.parties) == 16 {
		return 0, api.ErrServerSession
	}
	m.last++
	m.parties[m.last] = &party{lots: map[int]lot{}}
	return m.last, api.OK
}

func (m *model) close(n int) api.Errno {
	if m.parties[n] == nil {
		return api.ErrServerSession
	}
	delete(m.parties, n)
	return api.OK
}

func (m *model) sessions() []int { return slices.Sorted(maps.Keys(m.parties)) }

func (m *model) streams(n int) ([]int, api.Errno) {
	if m.parties[n] == nil {
		return nil, api.ErrServerSession
	}
	return slices.Sorted(maps.Keys(m.parties[n].lots)), api.OK
}

func only(s api.Status) api.Reply { return api.Reply{Status: s} }

// step is the reply, and to which kind it is.
func (m *model) step(n int, frame string) (int, api.Reply) {
	if m.parties[n] == nil {
		return 0, only(api.NoSession)
	}
	r, rest, e := message.Decode(frame)
	switch {
	case e != api.OK || rest != "":
		return 0, only(api.BadFrame)
	case m.doubt:
		return r.Kind, only(api.Doubt)
	}
	return r.Kind, m.serve(m.parties[n], r)
}

func (m *model) serve(p *party, r api.Request) api.Reply {
	switch r.Kind {
	case api.AskAppend:
		return m.append(r.Entries)
	case api.AskHead:
		return api.Reply{Size: m.size(), Root: rootOf(leavesOf(m.entries), at(0, m.size()))}
	case api.AskEntries:
		return m.run(r)
	case api.AskOpen:
		return m.open(p, r)
	case api.AskPull:
		return m.pull(p, r.A)
	case api.AskClose:
		if _, there := p.lots[r.A]; !there {
			return only(api.NoStream)
		}
		delete(p.lots, r.A)
		return api.Reply{}
	case api.AskGroup:
		plan.Run(m.tree, m.cache, r.Asks)
		var x api.Reply
		for _, a := range r.Asks {
			x.Replies = append(x.Replies, m.alone(a))
		}
		return x
	}
	plan.Run(m.tree, m.cache, []api.Request{r})
	return m.alone(r)
}

func (m *model) append(l []string) api.Reply {
	bytes := 0
	for _, e := range l {
		if len(e) > 1000 {
			return only(api.TooLong)
		}
		bytes += 2 + len(e)
	}
	switch {
	case m.size()+len(l) > m.limits.Capacity:
		return only(api.Full)
	case bytes > m.free && !m.dies:
		return only(api.Full)
	case m.dies:
		m.doubt = true
		return only(api.Doubt)
	}
	first := m.size()
	m.take(l)
	return api.Reply{Size: m.size(), A: first, Root: rootOf(leavesOf(m.entries), at(0, m.size()))}
}

func (m *model) take(l []string) {
	for _, e := range l {
		m.entries = append(m.entries, e)
		m.free -= 2 + len(e)
		m.tree.Add(leafOf(e))
	}
}

// alone is what an ask of the kinds 3 to 7 answers alone.
func (m *model) alone(r api.Request) api.Reply {
	leaves, whole, there := leavesOf(m.entries), at(0, r.Size), 1 <= r.Size && r.Size <= m.size()
	switch {
	case r.Kind == api.AskRoot && r.Size <= m.size():
		return api.Reply{Root: rootOf(leaves, whole)}
	case r.Kind == api.AskInclusion && there && r.A < r.Size:
		return api.Reply{Hashes: rootsOf(leaves, pathSpans(whole, r.A))}
	case r.Kind == api.AskConsistency && there && 1 <= r.A && r.A <= r.Size:
		return api.Reply{Hashes: rootsOf(leaves, proofSpans(whole, r.A, true))}
	case r.Kind == api.AskBatch && there && slices.Max(r.List) < r.Size:
		asked := func(i int) bool { return slices.Contains(r.List, i) }
		return api.Reply{Hashes: rootsOf(leaves, besides(whole, asked))}
	case r.Kind == api.AskChain && r.List[0] > 0 && slices.Max(r.List) <= m.size():
		return api.Reply{Hashes: rootsOf(leaves, chainSpans(r.List))}
	}
	return only(api.NotThere)
}

func (m *model) isRun(r api.Request) bool {
	return 1 <= r.Size && r.Size <= m.size() && 0 <= r.A && r.A < r.B && r.B <= r.Size
}

// told are entries, and the hashes beside them.
func (m *model) told(size, begin, end int) api.Reply {
	asked := func(i int) bool { return begin <= i && i < end }
	return api.Reply{
		Entries: m.entries[begin:end],
		Hashes:  rootsOf(leavesOf(m.entries), besides(at(0, size), asked)),
	}
}

func (m *model) run(r api.Request) api.Reply {
	switch {
	case !m.isRun(r):
		return only(api.NotThere)
	case r.B-r.A > m.limits.Entries:
		return only(api.TooLong)
	}
	return m.told(r.Size, r.A, r.B)
}

func (m *model) open(p *party, r api.Request) api.Reply {
	switch {
	case !m.isRun(r):
		return only(api.NotThere)
	case len(p.lots) == 8:
		return only(api.TooMany)
	}
	p.last++
	p.lots[p.last] = lot{r.Size, r.A, r.B}
	return api.Reply{A: p.last}
}

// chunk is how many entries the next one has.
func (m *model) chunk(x lot) int {
	most := 1
	for n := 2; n <= 4096 && x.next+n <= x.end; n++ {
		bytes := 0
		for _, e := range m.entries[x.next : x.next+n] {
			bytes += 2 + len(e)
		}
		if bytes > m.limits.Chunk {
			break
		}
		most = n
	}
	return most
}

func (m *model) pull(p *party, n int) api.Reply {
	x, there := p.lots[n]
	if !there {
		return only(api.NoStream)
	}
	r := m.told(x.size, x.next, x.next+m.chunk(x))
	r.A = x.next
	x.next += len(r.Entries)
	p.lots[n] = x
	if x.next == x.end {
		r.B = 1
		delete(p.lots, n)
	}
	return r
}

// frameOf is a reply as a frame, by the chapter's last word of it.
func frameOf(t *testing.T, kind int, r api.Reply) string {
	t.Helper()
	f, e := message.EncodeReply(kind, r)
	if e == api.ErrMessageLong {
		f, e = message.EncodeReply(kind, only(api.TooLong))
	}
	if e != api.OK {
		t.Fatalf("chapter 17: EncodeReply(%d, %x): %d", kind, r, e)
	}
	return f
}

// requestFrame is a request as a frame.
func requestFrame(t *testing.T, r api.Request) string {
	t.Helper()
	f, e := message.Encode(r)
	if e != api.OK {
		t.Fatalf("chapter 17: Encode(%v): %d", r, e)
	}
	return f
}

// world is a server, what it stands on, and its model.
type world struct {
	device *device.Device
	store  *store.Store
	server *server.Server
	model  *model
}

func begin(t *testing.T, pages int, l api.Limits) world {
	t.Helper()
	d, e := device.New(pages)
	if e != api.OK || store.Format(d) != api.OK {
		t.Fatal("chapters 9 and 10")
	}
	s, e := store.Open(d)
	if e != api.OK {
		t.Fatalf("chapter 10: Open: %d", e)
	}
	v, e := server.New(s, l)
	if e != api.OK || v == nil {
		t.Fatalf("V1: New with %v: %d", l, e)
	}
	return world{d, s, v, newModel(t, pages, l)}
}

// connect begins a session of both.
func (w world) connect(t *testing.T) int {
	t.Helper()
	n, e := w.server.Connect()
	want, f := w.model.connect()
	if n != want || e != f {
		t.Fatalf("V2: Connect: %d, %d, want %d, %d", n, e, want, f)
	}
	return n
}

// close ends one.
func (w world) close(t *testing.T, n int) {
	t.Helper()
	if e, want := w.server.Close(n), w.model.close(n); e != want {
		t.Fatalf("V2: Close(%d): %d, want %d", n, e, want)
	}
}

// step takes a frame in both: the reply's frame must be the same one, and all that can be seen of the server.
func (w world) step(t *testing.T, n int, frame string) (int, api.Reply) {
	t.Helper()
	was := w.model.size()
	is := w.server.Step(n, frame)
	kind, want := w.model.step(n, frame)
	if is != frameOf(t, kind, want) {
		t.Fatalf("V3: of %x in %d, of a log of %d: %x, want %x (%x)", frame, n, was, is, frameOf(t, kind, want), want)
	}
	w.same(t)
	r, rest, e := message.DecodeReply(kind, is)
	if e != api.OK || rest != "" {
		t.Fatalf("V4: the reply to %x can't be read: %d, %x", frame, e, rest)
	}
	return kind, r
}

// ask asks in a session.
func (w world) ask(t *testing.T, n int, r api.Request) api.Reply {
	t.Helper()
	_, x := w.step(t, n, requestFrame(t, r))
	return x
}

// grow appends so many entries, all unlike.
func (w world) grow(t *testing.T, n, many int) {
	t.Helper()
	for many > 0 {
		var l []string
		for i := range min(many, 32) {
			l = append(l, "entry "+strconv.Itoa(w.model.size()+i))
		}
		many -= len(l)
		if r := w.ask(t, n, api.Request{Kind: api.AskAppend, Entries: l}); r.Status != api.Done {
			t.Fatalf("V3: an Append of %d: %d", len(l), r.Status)
		}
	}
}

// same holds what can be seen of a server against the model.
func (w world) same(t *testing.T) {
	t.Helper()
	if is, want := w.server.Sessions(), w.model.sessions(); !slices.Equal(is, want) {
		t.Fatalf("V2: Sessions: %v, want %v", is, want)
	}
	for n := -1; n <= w.model.last+1; n++ {
		is, e := w.server.Streams(n)
		want, f := w.model.streams(n)
		if !slices.Equal(is, want) || e != f {
			t.Fatalf("V2: Streams(%d): %v, %d, want %v, %d", n, is, e, want, f)
		}
	}
	if is, want := w.server.Tally(), w.model.cache.Tally(); is != want {
		t.Fatalf("V2: Tally: %v, want %v", is, want)
	}
	if w.store.Size() != w.model.size() || w.store.Doubt() != w.model.doubt {
		t.Fatalf("V3: a store of %d, %v, want %d, %v", w.store.Size(), w.store.Doubt(), w.model.size(), w.model.doubt)
	}
}

// near is a number about a size, or another one.
func near(r *rand.Rand, size int) int {
	switch r.Intn(12) {
	case 0:
		return min(size+1, 1<<40)
	case 1:
		return size
	case 2:
		return 0
	case 3:
		return 1 << r.Intn(41)
	}
	return r.Intn(size + 1)
}

// rising are up to so many numbers.
func rising(r *rand.Rand, size, most int) []int {
	var l []int
	for range 1 + r.Intn(most) {
		l = append(l, near(r, size))
	}
	slices.Sort(l)
	return slices.Compact(l)
}

// askOf is an ask of the kinds 3 to 7.
func askOf(r *rand.Rand, size int) api.Request {
	kind := 3 + r.Intn(5)
	switch kind {
	case api.AskRoot:
		return api.Request{Kind: kind, Size: near(r, size)}
	case api.AskBatch:
		l := rising(r, size, 8)
		return api.Request{Kind: kind, Size: min(l[len(l)-1]+r.Intn(3), 1<<40), List: l}
	case api.AskChain:
		return api.Request{Kind: kind, List: rising(r, size, 6)}
	}
	return api.Request{Kind: kind, A: near(r, size), Size: near(r, size)}
}

// requestOf is one of any kind, of a log of a size, in a session with about so many streams.
func requestOf(r *rand.Rand, size, streams int) api.Request {
	switch kind := 1 + r.Intn(14); kind {
	case api.AskAppend:
		return appendOf(r)
	case api.AskHead:
		return api.Request{Kind: kind}
	case api.AskEntries, api.AskOpen, 13:
		n := near(r, size)
		x := []int{near(r, n), near(r, n)}
		if r.Intn(10) > 0 {
			slices.Sort(x)
		}
		return api.Request{Kind: min(kind, api.AskOpen), A: x[0], B: x[1], Size: n}
	case api.AskPull, 14:
		return api.Request{Kind: api.AskPull, A: near(r, streams)}
	case api.AskClose:
		return api.Request{Kind: kind, A: near(r, streams)}
	case api.AskGroup:
		var l []api.Request
		for range 1 + r.Intn(6) {
			l = append(l, askOf(r, size))
		}
		return api.Request{Kind: kind, Asks: l}
	}
	return askOf(r, size)
}

func appendOf(r *rand.Rand) api.Request {
	var l []string
	for range 1 + r.Intn(4) {
		n := r.Intn(12)
		if r.Intn(150) == 0 {
			n = 999 + r.Intn(4)
		}
		b := make([]byte, n)
		r.Read(b)
		l = append(l, string(b))
	}
	return api.Request{Kind: api.AskAppend, Entries: l}
}
