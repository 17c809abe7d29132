package server_test

import (
	"math/rand"
	"slices"
	"strings"
	"testing"

	"scrivener/api"
	"scrivener/batch"
	"scrivener/chain"
	"scrivener/message"
	"scrivener/recursion"
	"scrivener/server"
	"scrivener/span"
	"scrivener/store"
	"scrivener/tile"
)

// What follows: V4, and with it P1 and P5 of the whole as far as they speak of servers.

// act is one of what comes to a server: a session more, one less, or a frame.
type act struct {
	what, session int
	frame         string
}

const (
	connects = iota
	leaves
	sends
)

// spoilt is a frame of which something is wrong, most likely.
func spoilt(r *rand.Rand, f string) string {
	b := []byte(f)
	switch r.Intn(4) {
	case 0:
		return f[:r.Intn(len(f))]
	case 1:
		return f + f
	case 2:
		b[r.Intn(len(b))] ^= 1 << r.Intn(8)
	case 3:
		b[r.Intn(len(b))] = byte(r.Intn(14))
	}
	return string(b)
}

// actOf is a next one, for a log and a session as the model has them.
func actOf(t *testing.T, r *rand.Rand, m *model) act {
	t.Helper()
	session := 1 + r.Intn(m.last+1)
	if l := m.sessions(); len(l) > 0 && r.Intn(30) > 0 {
		session = l[r.Intn(len(l))]
	}
	switch r.Intn(200) {
	case 0, 1:
		return act{what: connects}
	case 2:
		return act{what: leaves, session: session}
	}
	streams := 0
	if p := m.parties[session]; p != nil {
		streams = p.last
	}
	f := requestFrame(t, requestOf(r, m.size(), streams))
	if r.Intn(15) == 0 {
		f = spoilt(r, f)
	}
	return act{sends, session, f}
}

// play lets it come to both.
func (w world) play(t *testing.T, a act) (int, api.Reply) {
	t.Helper()
	switch a.what {
	case connects:
		n, e := w.server.Connect()
		if want, f := w.model.connect(); n != want || e != f {
			t.Fatalf("V2: Connect: %d, %d, want %d, %d", n, e, want, f)
		}
	case leaves:
		w.close(t, a.session)
	case sends:
		return w.step(t, a.session, a.frame)
	}
	w.same(t)
	return 0, api.Reply{}
}

// Whatever comes, in whatever sessions, under whatever limits: it is what the model says, and what layers 3, 12 and 13 say.
func TestWhateverComes(t *testing.T) {
	r := rand.New(rand.NewSource(18))
	rounds, acts := 40, 1000
	if testing.Short() {
		rounds = 6
	}
	done := map[[2]int]int{}
	for round := range rounds {
		l := api.Limits{Budget: []int{0, 40, 300, 5000, 1 << 24}[round%5], Chunk: 1 + r.Intn(40), Capacity: 1 + r.Intn(200), Entries: 1 + r.Intn(9)}
		w := begin(t, 4+r.Intn(12), l)
		w.connect(t)
		dies := r.Intn(3 * acts)
		for i := range acts {
			if i == dies {
				w.device.Arm(1)
				w.device.Flush()
				w.model.dies = true
			}
			a := actOf(t, r, w.model)
			kind, x := w.play(t, a)
			if a.what == sends {
				done[[2]int{kind, int(x.Status)}]++
				holds(t, w.model.entries, a.frame, x)
			}
		}
	}
	for _, x := range [][2]int{{0, 1}, {0, 7}, {1, 0}, {1, 3}, {1, 4}, {1, 8}, {2, 0}, {3, 0}, {3, 2}, {4, 0}, {4, 2}, {5, 0}, {5, 2}, {6, 0}, {6, 2}, {7, 0}, {7, 2}, {8, 0}, {8, 2}, {8, 4}, {9, 0}, {9, 2}, {9, 6}, {10, 0}, {10, 5}, {11, 0}, {11, 5}, {12, 0}} {
		if done[x] == 0 && !testing.Short() {
			t.Errorf("no reply to the kind %d had the status %d", x[0], x[1])
		}
	}
}

// treeOf is one of these leaves.
func treeOf(l []string) *tile.Tree {
	x, _ := tile.New(3)
	for _, leaf := range l {
		x.Add(leaf)
	}
	return x
}

// holds holds a reply to the layers below.
func holds(t *testing.T, entries []string, frame string, x api.Reply) {
	t.Helper()
	r, _, e := message.Decode(frame)
	if e != api.OK || x.Status != api.Done {
		return
	}
	l := leavesOf(entries)
	if r.Kind != api.AskGroup {
		asLayers(t, l, r, x)
		return
	}
	for i, a := range r.Asks {
		if x.Replies[i].Status == api.Done {
			asLayers(t, l, a, x.Replies[i])
		}
	}
}

// asLayers holds one that is Done to layers 3, 12, 13 and 14.
func asLayers(t *testing.T, l []string, r api.Request, x api.Reply) {
	t.Helper()
	var want []string
	switch r.Kind {
	case api.AskAppend, api.AskHead:
		if root, _ := recursion.Root(l); x.Root != root || x.Size != len(l) {
			t.Errorf("V4: %v: not the root of layer 3", r)
		}
	case api.AskRoot:
		if root, _ := recursion.Root(l[:r.Size]); x.Root != root {
			t.Errorf("V4: %v: not the root of layer 3", r)
		}
	case api.AskInclusion:
		want, _ = recursion.Path(l[:r.Size], r.A)
	case api.AskConsistency:
		if r.A < r.Size {
			want, _ = recursion.Proof(l[:r.Size], r.A)
		}
	case api.AskBatch:
		want, _ = recursion.Many(l[:r.Size], r.List)
		if b, _ := batch.Prove(treeOf(l), r.Size, r.List); !slices.Equal(b.Hashes, want) {
			t.Errorf("V4: %v: layers 3 and 12 differ", r)
		}
	case api.AskChain:
		c, _ := chain.Prove(treeOf(l), r.List)
		want = c.Hashes
	case api.AskEntries:
		root, _ := recursion.Root(l[:r.Size])
		run := api.Run{Size: r.Size, Begin: r.A, End: r.B, Hashes: x.Hashes}
		if e := span.Check(run, leavesOf(x.Entries), root); e != api.OK {
			t.Errorf("V4: %v: layer 14 refuses it: %d", r, e)
		}
		return
	case api.AskPull:
		return
	}
	if !slices.Equal(x.Hashes, want) {
		t.Errorf("V4: %v: %x, want %x", r, x.Hashes, want)
	}
}

// The budget changes only the tally: servers of all budgets, and one over each, answer the same.
func TestBudgetsAreNotSeen(t *testing.T) {
	r := rand.New(rand.NewSource(19))
	l := api.Limits{Chunk: 15, Capacity: 80, Entries: 5}
	first := begin(t, 20, l)
	all := []*server.Server{}
	for _, l.Budget = range []int{1, 33, 34, 35, 66, 100, 1000, 1 << 24} {
		all = append(all, begin(t, 20, l).server)
	}
	for range 1500 {
		a := actOf(t, r, first.model)
		first.play(t, a)
		for _, v := range all {
			switch a.what {
			case connects:
				v.Connect()
			case leaves:
				v.Close(a.session)
			}
		}
		if a.what != sends {
			continue
		}
		is := all[0].Step(a.session, a.frame)
		for i, v := range all[1:] {
			if f := v.Step(a.session, a.frame); f != is {
				t.Fatalf("V4: the budget %d is seen: %x and %x", i, f, is)
			}
		}
	}
	if all[0].Tally() == all[len(all)-1].Tally() {
		t.Error("V2: the tally does not hang on the budget")
	}
}

// isAppend tells whether a frame is that of an Append.
func isAppend(frame string) bool {
	r, rest, e := message.Decode(frame)
	return e == api.OK && rest == "" && r.Kind == api.AskAppend
}

// What one session does changes in another one only what the log has: without all else that the others did, it is answered the same.
func TestSessionsDoNotDisturb(t *testing.T) {
	for seed := range int64(6) {
		r := rand.New(rand.NewSource(seed))
		l := api.Limits{Budget: 500, Chunk: 15, Capacity: 150, Entries: 5}
		w := begin(t, 20, l)
		for range 4 {
			w.connect(t)
		}
		var acts []act
		var replies []string
		for range 600 {
			session := 1 + r.Intn(4)
			p := w.model.parties[session]
			f := requestFrame(t, requestOf(r, w.model.size(), p.last))
			kind, x := w.step(t, session, f)
			acts, replies = append(acts, act{sends, session, f}), append(replies, frameOf(t, kind, x))
		}
		for session := 1; session <= 4; session++ {
			alone := begin(t, 20, l).server
			for range 4 {
				alone.Connect()
			}
			for i, a := range acts {
				if a.session != session && !isAppend(a.frame) {
					continue
				}
				if f := alone.Step(a.session, a.frame); f != replies[i] {
					t.Fatalf("V4: %x in %d, alone: %x, want %x", a.frame, session, f, replies[i])
				}
			}
		}
	}
}

// What a stream tells is the run that was opened, as it was then, though the log grows; it ends, and is there no more.
func TestStreamsTellRuns(t *testing.T) {
	r := rand.New(rand.NewSource(20))
	for _, chunk := range []int{1, 9, 10, 30, 1000, 1000000} {
		w := begin(t, 100, api.Limits{Budget: 100, Chunk: chunk, Capacity: 400, Entries: 1})
		n := w.connect(t)
		w.grow(t, n, 1)
		for range 30 {
			size := 1 + r.Intn(w.model.size())
			a := r.Intn(size)
			b := a + 1 + r.Intn(size-a)
			root, _ := recursion.Root(leavesOf(w.model.entries[:size]))
			opened := w.ask(t, n, opens(a, b, size))
			w.tellsRun(t, n, opened.A, size, at(a, b), root)
			w.grow(t, n, r.Intn(5))
		}
	}
}

// tellsRun pulls a stream to its end, while the log grows.
func (w world) tellsRun(t *testing.T, n, stream, size int, run api.Span, root string) {
	t.Helper()
	want := slices.Clone(w.model.entries[run.Begin:run.End])
	j, _ := span.NewJoiner(run)
	for pulled := 0; !j.Done(); pulled++ {
		if pulled == run.End-run.Begin {
			t.Fatalf("V4: the stream %d does not end", stream)
		}
		x := w.ask(t, n, pulls(stream))
		proof := api.Run{Size: size, Begin: x.A, End: x.A + len(x.Entries), Hashes: x.Hashes}
		if e := span.Check(proof, leavesOf(x.Entries), root); e != api.OK {
			t.Fatalf("V4: a chunk of %v of %d: %d", run, size, e)
		}
		if e := j.Take(x.A, x.Entries); e != api.OK || j.Done() != (x.B == 1) {
			t.Fatalf("V4: a chunk of %v of %d does not go on: %d, %d", run, size, e, x.B)
		}
		if pulled%3 == 0 {
			w.grow(t, n, 1)
		}
	}
	if !slices.Equal(j.Entries(), want) {
		t.Errorf("V4: the stream of %v of %d: %q", run, size, j.Entries())
	}
	if x := w.ask(t, n, pulls(stream)); x.Status != api.NoStream {
		t.Errorf("V4: a stream that is over: %x", x)
	}
}

// counted is a batch of a size that has so many hashes.
func counted(t *testing.T, r *rand.Rand, size, many int) api.Request {
	t.Helper()
	for range 100000 {
		var l []int
		for range 100 + r.Intn(150) {
			l = append(l, r.Intn(size))
		}
		slices.Sort(l)
		l = slices.Compact(l)
		if n, e := batch.Count(size, l); e == api.OK && n == many {
			return api.Request{Kind: api.AskBatch, Size: size, List: l}
		}
	}
	t.Fatalf("no batch of %d hashes was found", many)
	return api.Request{}
}

// big is a log of so many entries without bytes, through a store of its own, since the model is slow.
func big(t *testing.T, pages, many int, entry string, l api.Limits) world {
	t.Helper()
	w := begin(t, pages, l)
	for many > 0 {
		n := min(many, 32)
		if _, e := w.store.Append(slices.Repeat([]string{entry}, n)); e != api.OK {
			t.Fatalf("chapter 10: Append: %d", e)
		}
		many -= n
	}
	w.server.Connect()
	return w
}

// A reply that has as many bytes as a frame may have is told; with one byte more it is too long.
func TestLongReplies(t *testing.T) {
	r := rand.New(rand.NewSource(21))
	w := big(t, 40, 4096, "", api.Limits{Budget: 1000, Chunk: 10, Capacity: 5000, Entries: 4096})
	// 3 bytes, 42 parts of 4 bytes and their hashes, 21 parts of one byte: 2^20 bytes, with 32762 hashes.
	var asks []api.Request
	left := 32762
	for i := range 42 {
		one := counted(t, r, 4096, left/(42-i))
		left -= left / (42 - i)
		asks = append(asks, one)
	}
	for range 21 {
		asks = append(asks, root(5000))
	}
	f := w.server.Step(1, requestFrame(t, groups(asks...)))
	x, rest, e := message.DecodeReply(api.AskGroup, f)
	if len(f) != 3+1<<20 || e != api.OK || rest != "" || x.Status != api.Done {
		t.Fatalf("V3: a reply of 2^20 bytes: %d bytes, %d", len(f), e)
	}
	l := leavesOf(make([]string, 4096))
	for i, a := range asks[:42] {
		if want, _ := recursion.Many(l, a.List); !slices.Equal(want, x.Replies[i].Hashes) {
			t.Errorf("V4: the part %d is not what layer 3 says", i)
		}
	}
	was := w.server.Tally()
	asks = append(asks, root(5000))
	if f := w.server.Step(1, requestFrame(t, groups(asks...))); f != "\x02\x0c\x04" {
		t.Errorf("V3: a reply of one byte more: %d bytes, %x", len(f), f[:3])
	}
	if now := w.server.Tally(); now.Found+now.Missed == was.Found+was.Missed {
		t.Errorf("V3: a reply that is too long has asked the cache nothing: %v", now)
	}
}

// The greatest limits, of the greatest log: all entries of a reply, and chunks of a stream.
func TestGreatReplies(t *testing.T) {
	if testing.Short() {
		t.Skip("long")
	}
	entry := strings.Repeat("e", 253)
	w := big(t, 4096, 4096+8, entry, api.Limits{Budget: 1 << 24, Chunk: 1000000, Capacity: 1 << 20, Entries: 4096})
	entries := slices.Repeat([]string{entry}, 4096)
	f := w.server.Step(1, requestFrame(t, api.Request{Kind: api.AskEntries, A: 7, B: 7 + 4096, Size: 4104}))
	x, _, e := message.DecodeReply(api.AskEntries, f)
	if e != api.OK || x.Status != api.Done || !slices.Equal(x.Entries, entries) {
		t.Fatalf("V3: 4096 entries: %d, %d, %d of them", e, x.Status, len(x.Entries))
	}
	w.server.Step(1, requestFrame(t, opens(3, 4104, 4104)))
	told := 3
	for range 2 {
		f := w.server.Step(1, requestFrame(t, pulls(1)))
		x, _, e := message.DecodeReply(api.AskPull, f)
		if e != api.OK || x.Status != api.Done || x.A != told {
			t.Fatalf("V3: a chunk: %d, %x", e, x.Status)
		}
		told += len(x.Entries)
		if want := min(1000000/255, 4101); told == 3+want && x.B != 0 || told == 4104 && x.B != 1 || told != 3+want && told != 4104 {
			t.Errorf("V3: a chunk ends at %d: %d", told, x.B)
		}
	}
	if l, _ := w.server.Streams(1); len(l) != 0 || told != 4104 {
		t.Errorf("V3: a stream has told up to %d: %v", told, l)
	}
}

// A log that was left in doubt is opened anew, and a server laid over it goes on with what was answered.
func TestOpenedAnew(t *testing.T) {
	for act := 1; act <= 4; act++ {
		w := begin(t, 20, some)
		n := w.connect(t)
		w.grow(t, n, 5)
		w.device.Arm(act)
		w.model.dies = true
		w.ask(t, n, appends("lost"))
		if e := w.device.Crash(nil); e != api.OK {
			t.Fatalf("chapter 9: Crash: %d", e)
		}
		s, e := store.Open(w.device)
		if e != api.OK {
			t.Fatalf("chapter 10: Open: %d", e)
		}
		v, _ := server.New(s, some)
		again := newModel(t, 20, some)
		again.take(w.model.entries)
		w = world{w.device, s, v, again}
		n = w.connect(t)
		w.ask(t, n, api.Request{Kind: api.AskHead})
		w.grow(t, n, 2)
		w.ask(t, n, api.Request{Kind: api.AskConsistency, A: 5, Size: 7})
	}
}
