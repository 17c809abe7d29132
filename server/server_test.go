package server_test

import (
	"math"
	"slices"
	"strings"
	"testing"

	"scrivener/api"
	"scrivener/device"
	"scrivener/server"
	"scrivener/store"
)

// some are limits.
var some = api.Limits{Budget: 1000, Chunk: 20, Capacity: 200, Entries: 10}

func appends(l ...string) api.Request { return api.Request{Kind: api.AskAppend, Entries: l} }

func opens(a, b, size int) api.Request {
	return api.Request{Kind: api.AskOpen, A: a, B: b, Size: size}
}

func pulls(n int) api.Request { return api.Request{Kind: api.AskPull, A: n} }

func closes(n int) api.Request { return api.Request{Kind: api.AskClose, A: n} }

func groups(asks ...api.Request) api.Request { return api.Request{Kind: api.AskGroup, Asks: asks} }

func root(size int) api.Request { return api.Request{Kind: api.AskRoot, Size: size} }

// is tells whether a reply is just that.
func is(r, want api.Reply) bool {
	return r.Status == want.Status && r.Size == want.Size && r.A == want.A && r.B == want.B && r.Root == want.Root &&
		slices.Equal(r.Hashes, want.Hashes) && slices.Equal(r.Entries, want.Entries) &&
		slices.EqualFunc(r.Replies, want.Replies, is)
}

func TestExamples(t *testing.T) {
	w := begin(t, 10, api.Limits{Budget: 100, Chunk: 1, Capacity: 3, Entries: 10})
	if n := w.connect(t); n != 1 {
		t.Fatalf("V2: Connect: %d", n)
	}
	a, b := leafOf("a"), leafOf("b")
	for k, x := range []struct {
		ask  api.Request
		want api.Reply
	}{
		{appends("a", "b"), api.Reply{Size: 2, Root: node(a, b)}},
		{api.Request{Kind: api.AskHead}, api.Reply{Size: 2, Root: node(a, b)}},
		{api.Request{Kind: api.AskInclusion, A: 1, Size: 2}, api.Reply{Hashes: []string{a}}},
		{api.Request{Kind: api.AskInclusion, A: 2, Size: 2}, only(api.NotThere)},
		{opens(0, 2, 2), api.Reply{A: 1}},
		{appends("c", "d"), only(api.Full)},
		{appends("c"), api.Reply{Size: 3, A: 2, Root: node(node(a, b), leafOf("c"))}},
		{pulls(1), api.Reply{Entries: []string{"a"}, Hashes: []string{b}}},
		{pulls(1), api.Reply{A: 1, B: 1, Entries: []string{"b"}, Hashes: []string{a}}},
		{pulls(1), only(api.NoStream)},
		{opens(0, 2, 2), api.Reply{A: 2}},
		{appends("d", "e"), only(api.Full)},
	} {
		if r := w.ask(t, 1, x.ask); !is(r, x.want) {
			t.Errorf("V3: line %d: %x, want %x", k, r, x.want)
		}
	}
	if f := w.server.Step(1, "x"); f != "\x02\x00\x01" {
		t.Errorf("V3: the frame x: %x", f)
	}
	if f := w.server.Step(2, "\x01\x02"); f != "\x02\x00\x07" {
		t.Errorf("V3: in the session 2: %x", f)
	}
}

func TestLimits(t *testing.T) {
	d, _ := device.New(4)
	store.Format(d)
	s, _ := store.Open(d)
	least, most := [4]int{0, 1, 1, 1}, [4]int{1 << 24, 1000000, 1 << 20, 4096}
	for field := range least {
		for n, ok := range map[int]bool{
			math.MinInt: false, -1: false, least[field] - 1: false, least[field]: true, least[field] + 1: true,
			most[field] - 1: true, most[field]: true, most[field] + 1: false, 1 << 40: false, math.MaxInt: false,
		} {
			for _, others := range [][4]int{least, most} {
				l := others
				l[field] = n
				v, e := server.New(s, api.Limits{Budget: l[0], Chunk: l[1], Capacity: l[2], Entries: l[3]})
				switch {
				case ok && (v == nil || e != api.OK):
					t.Errorf("V1: New with %v: %d", l, e)
				case !ok && (v != nil || e != api.ErrServerConfig):
					t.Errorf("V1: New with %v: %d, want ErrServerConfig", l, e)
				case ok && (len(v.Sessions()) != 0 || v.Tally() != api.Tally{}):
					t.Errorf("V1: New with %v: %v, %v", l, v.Sessions(), v.Tally())
				}
			}
		}
	}
}

func TestSessions(t *testing.T) {
	w := begin(t, 10, some)
	for i := range 16 {
		if n := w.connect(t); n != i+1 {
			t.Fatalf("V2: Connect: %d", n)
		}
		w.same(t)
	}
	if n, e := w.server.Connect(); n != 0 || e != api.ErrServerSession {
		t.Errorf("V2: the seventeenth: %d, %d", n, e)
	}
	for _, n := range []int{0, 17, -1, math.MinInt, math.MaxInt, 1 << 32} {
		w.close(t, n)
		w.step(t, n, "\x01\x02")
	}
	for _, n := range []int{16, 3, 1} {
		w.close(t, n)
		w.close(t, n)
		w.same(t)
		w.step(t, n, "\x01\x02")
	}
	for want := 17; want < 20; want++ {
		if n := w.connect(t); n != want {
			t.Errorf("V2: Connect: %d, want %d", n, want)
		}
		w.same(t)
	}
	if n, e := w.server.Connect(); n != 0 || e != api.ErrServerSession {
		t.Errorf("V2: the seventeenth again: %d, %d", n, e)
	}
}

// A session that ends takes its streams with it; its number does not come back.
func TestCloseTakesStreams(t *testing.T) {
	w := begin(t, 10, some)
	one, two := w.connect(t), w.connect(t)
	w.grow(t, one, 5)
	for range 8 {
		w.ask(t, one, opens(0, 5, 5))
		w.ask(t, two, opens(1, 4, 5))
	}
	w.close(t, one)
	w.same(t)
	if l, e := w.server.Streams(one); l != nil || e != api.ErrServerSession {
		t.Errorf("V2: Streams of what has ended: %v, %d", l, e)
	}
	three := w.connect(t)
	if r := w.ask(t, three, pulls(1)); r.Status != api.NoStream {
		t.Errorf("V2: a stream of an ended session: %x", r)
	}
	if r := w.ask(t, three, opens(0, 1, 5)); r.Status != api.Done || r.A != 1 {
		t.Errorf("V3: the first stream of a session: %x", r)
	}
	if r := w.ask(t, two, pulls(8)); r.Status != api.Done || r.A != 1 {
		t.Errorf("V2: another session's stream: %x", r)
	}
}

func TestStreams(t *testing.T) {
	w := begin(t, 10, some)
	n := w.connect(t)
	w.grow(t, n, 6)
	for i := range 8 {
		if r := w.ask(t, n, opens(i%3, 6, 6)); r.Status != api.Done || r.A != i+1 {
			t.Errorf("V3: Open: %x", r)
		}
	}
	for _, x := range []struct {
		ask  api.Request
		want api.Status
	}{
		{opens(0, 6, 6), api.TooMany},
		{opens(0, 7, 6), api.NotThere},
		{opens(0, 6, 7), api.NotThere},
		{opens(3, 3, 6), api.NotThere},
		{opens(4, 3, 6), api.NotThere},
		{opens(0, 0, 0), api.NotThere},
		{opens(0, 1<<40, 1<<40), api.NotThere},
		{closes(0), api.NoStream},
		{closes(9), api.NoStream},
		{closes(1 << 40), api.NoStream},
		{pulls(0), api.NoStream},
		{pulls(9), api.NoStream},
		{pulls(1 << 40), api.NoStream},
		{closes(4), api.Done},
		{closes(4), api.NoStream},
		{pulls(4), api.NoStream},
		{opens(0, 1, 1), api.Done},
		{opens(0, 6, 6), api.TooMany},
		{pulls(9), api.Done},
		{pulls(9), api.NoStream},
		{opens(5, 6, 6), api.Done},
	} {
		if r := w.ask(t, n, x.ask); r.Status != x.want {
			t.Errorf("V3: %v: %x, want %d", x.ask, r, x.want)
		}
	}
}

func TestAppend(t *testing.T) {
	long, longest := strings.Repeat("x", 1001), strings.Repeat("y", 1000)
	w := begin(t, 10, api.Limits{Chunk: 10, Capacity: 36, Entries: 4})
	n := w.connect(t)
	for _, x := range []struct {
		entries []string
		want    api.Status
	}{
		{[]string{long}, api.TooLong},
		{[]string{"", long}, api.TooLong},
		{[]string{strings.Repeat("x", 4096)}, api.TooLong},
		{[]string{longest}, api.Done},
		{[]string{longest}, api.Done},
		{[]string{longest}, api.Full},                     // the store's: 44 bytes are left of 2048
		{[]string{strings.Repeat("z", 41), ""}, api.Full}, // 45 bytes
		{[]string{""}, api.Done},                          // 2 of 44
		{make([]string, 32), api.Full},                    // 64 bytes
		{make([]string, 20), api.Done},                    // 40
		{[]string{"", ""}, api.Full},                      // 4 of 2
		{[]string{""}, api.Done},                          // all room is taken
		{[]string{""}, api.Full},                          // and the store says so
		{append(make([]string, 20), long), api.TooLong},   // ahead of Full
		{slices.Repeat([]string{long}, 32), api.TooLong},  // likewise
		{slices.Repeat([]string{strings.Repeat("x", 1000)}, 32), api.Full},
	} {
		if r := w.ask(t, n, appends(x.entries...)); r.Status != x.want {
			t.Errorf("V3: an Append of %d entries: %x, want %d", len(x.entries), r, x.want)
		}
	}
}

func TestCapacity(t *testing.T) {
	w := begin(t, 10, api.Limits{Chunk: 10, Capacity: 5, Entries: 4})
	n := w.connect(t)
	for _, x := range []struct {
		many int
		want api.Status
	}{{6, api.Full}, {32, api.Full}, {4, api.Done}, {2, api.Full}, {1, api.Done}, {1, api.Full}} {
		if r := w.ask(t, n, appends(make([]string, x.many)...)); r.Status != x.want {
			t.Errorf("V3: an Append of %d: %x, want %d", x.many, r, x.want)
		}
	}
}

// A log may have more than the capacity of a server that is laid over it: that takes no more, and tells what there is.
func TestServerOverMore(t *testing.T) {
	w := begin(t, 10, some)
	w.grow(t, w.connect(t), 9)
	v, e := server.New(w.store, api.Limits{Chunk: 10, Capacity: 3, Entries: 4})
	if e != api.OK {
		t.Fatalf("V1: New: %d", e)
	}
	w.server, w.model = v, newModel(t, 10, api.Limits{Chunk: 10, Capacity: 3, Entries: 4})
	for i := range 9 {
		entry, _ := w.store.Entry(i)
		w.model.take([]string{entry})
	}
	n := w.connect(t)
	if r := w.ask(t, n, appends("")); r.Status != api.Full {
		t.Errorf("V3: an Append beyond: %x", r)
	}
	if r := w.ask(t, n, api.Request{Kind: api.AskHead}); r.Size != 9 {
		t.Errorf("V3: the head: %x", r)
	}
}

func TestEntries(t *testing.T) {
	w := begin(t, 20, api.Limits{Chunk: 10, Capacity: 100, Entries: 4})
	n := w.connect(t)
	w.grow(t, n, 11)
	for size := range 14 {
		for a := range size + 3 {
			for b := range size + 3 {
				r := w.ask(t, n, api.Request{Kind: api.AskEntries, A: a, B: b, Size: size})
				if want := size < 12 && a < b && b <= size; want && b-a <= 4 != (r.Status == api.Done) || !want && r.Status != api.NotThere {
					t.Errorf("V3: the entries [%d, %d) of %d: %x", a, b, size, r)
				}
			}
		}
	}
}

// Every ask about every small size, one by one, of the sizes that there are and some more.
func TestAsks(t *testing.T) {
	w := begin(t, 20, some)
	n := w.connect(t)
	for size := range 8 {
		for s := range size + 2 {
			w.ask(t, n, root(s))
			for a := range size + 2 {
				w.ask(t, n, api.Request{Kind: api.AskInclusion, A: a, Size: s})
				w.ask(t, n, api.Request{Kind: api.AskConsistency, A: a, Size: s})
				w.ask(t, n, api.Request{Kind: api.AskChain, List: slices.Compact([]int{min(a, s), max(a, s)})})
			}
		}
		for set := 1; set < 1<<(size+1); set++ {
			var l []int
			for i := range size + 1 {
				if set>>i&1 == 1 {
					l = append(l, i)
				}
			}
			w.ask(t, n, api.Request{Kind: api.AskBatch, Size: size, List: l})
			w.ask(t, n, api.Request{Kind: api.AskChain, List: l})
		}
		w.grow(t, n, 1)
	}
}

func TestGroups(t *testing.T) {
	w := begin(t, 20, some)
	n := w.connect(t)
	w.grow(t, n, 7)
	r := w.ask(t, n, groups(root(9), root(1), api.Request{Kind: api.AskInclusion, A: 7, Size: 7}, root(8), api.Request{Kind: api.AskConsistency, A: 7, Size: 7}))
	want := api.Reply{Replies: []api.Reply{only(api.NotThere), {Root: leafOf("entry 0")}, only(api.NotThere), only(api.NotThere), {}}}
	if !is(r, want) {
		t.Errorf("V3: a group: %x, want %x", r, want)
	}
	if r := w.ask(t, n, groups(root(9))); !is(r, api.Reply{Replies: []api.Reply{only(api.NotThere)}}) {
		t.Errorf("V3: a group of what is not there: %x", r)
	}
	w.ask(t, n, groups(slices.Repeat([]api.Request{root(7), {Kind: api.AskBatch, Size: 7, List: []int{0, 6}}}, 32)...))
}

func TestWrongFrames(t *testing.T) {
	w := begin(t, 20, some)
	n := w.connect(t)
	w.grow(t, n, 7)
	w.ask(t, n, opens(0, 7, 7))
	frames := []string{"", "\x01", "\x00", "\x01\x00", "\x01\x0d", "\x01\xff", "\x02\x02\x00", "\x01\x02\x01\x02", "\x01\x02\x00", "\x81\x80\x40", strings.Repeat("\x80", 20), "\x02\x0c\x00", "\x02\x01\x00"}
	for b := range 256 {
		frames = append(frames, "\x01"+string([]byte{byte(b)}), "\x02\x0a"+string([]byte{byte(b)}))
	}
	for _, f := range frames {
		w.step(t, n, f)
		w.step(t, n+1, f)
	}
	for _, r := range []api.Request{appends("a", "b"), opens(0, 3, 7), pulls(1), closes(1), groups(root(3))} {
		f := requestFrame(t, r)
		for i := range len(f) {
			w.step(t, n, f[:i])
		}
		w.step(t, n, f+"\x00")
		w.step(t, n, f+f)
		w.step(t, 0, f)
	}
	if w.model.size() != 7 || w.store.Size() != 7 {
		t.Errorf("V3: wrong frames have changed the log: %d", w.store.Size())
	}
}

// everything is one request of each kind.
func everything() []api.Request {
	return []api.Request{
		appends("a"), {Kind: api.AskHead}, root(1), {Kind: api.AskInclusion, Size: 1}, {Kind: api.AskConsistency, A: 1, Size: 2},
		{Kind: api.AskBatch, Size: 2, List: []int{0}}, {Kind: api.AskChain, List: []int{1, 2}},
		{Kind: api.AskEntries, B: 1, Size: 2}, opens(0, 1, 2), pulls(1), closes(1), groups(root(1)),
	}
}

// Wherever the device dies in an Append (whose acts are two pages, a flush, a head and a flush), from then on all is in doubt but what has a wrong frame or session; sessions come and go.
func TestDoubt(t *testing.T) {
	for act := 1; act <= 5; act++ {
		w := begin(t, 20, some)
		n, other := w.connect(t), w.connect(t)
		w.grow(t, n, 3)
		w.ask(t, n, opens(0, 3, 3))
		w.ask(t, n, root(2))
		entry := strings.Repeat("x", 300)
		w.device.Arm(act)
		w.model.dies = true
		if r := w.ask(t, n, appends(entry)); r.Status != api.Doubt {
			t.Fatalf("V3: an Append in which the act %d fails: %x", act, r)
		}
		for round := range 2 {
			for _, x := range append(everything(), appends(strings.Repeat("x", 1001)), opens(9, 1, 1), pulls(99)) {
				if r := w.ask(t, n, x); !is(r, only(api.Doubt)) {
					t.Errorf("V3: %v in doubt: %x", x, r)
				}
			}
			w.step(t, n, "x")
			w.step(t, 9, "\x01\x02")
			if round == 0 {
				w.close(t, other)
				w.connect(t)
				w.device.Crash(nil)
			}
		}
	}
}

// A device that is dead is no matter to what asks none; the next Append finds it out.
func TestDeadDevice(t *testing.T) {
	w := begin(t, 20, some)
	n := w.connect(t)
	w.grow(t, n, 3)
	w.device.Arm(1)
	w.device.Flush()
	for _, x := range everything()[1:] {
		if r := w.ask(t, n, x); r.Status == api.Doubt {
			t.Errorf("V3: %v: %x", x, r)
		}
	}
	w.ask(t, n, appends(strings.Repeat("x", 1001)))
	w.model.dies = true
	w.ask(t, n, appends("a"))
	w.ask(t, n, api.Request{Kind: api.AskHead})
}

// A dead device is told ahead of a full one.
func TestDeadAheadOfFull(t *testing.T) {
	w := begin(t, 4, some)
	n := w.connect(t)
	w.device.Arm(1)
	w.device.Flush()
	w.model.dies = true
	if r := w.ask(t, n, appends(strings.Repeat("x", 600))); r.Status != api.Doubt {
		t.Errorf("V3: an Append to a dead device: %x", r)
	}
}

// Calls on what New did not make, and of a server over a store that Open did not give.
func TestNothingPanics(t *testing.T) {
	for _, v := range []*server.Server{nil, {}} {
		if n, e := v.Connect(); n != 0 || e != api.ErrServerSession {
			t.Errorf("R1: Connect: %d, %d", n, e)
		}
		if e := v.Close(1); e != api.ErrServerSession {
			t.Errorf("R1: Close: %d", e)
		}
		if f := v.Step(1, "\x01\x02"); f != "\x02\x00\x07" {
			t.Errorf("R1: Step: %x", f)
		}
		if l, e := v.Streams(1); len(l) != 0 || e != api.ErrServerSession || len(v.Sessions()) != 0 || v.Tally() != (api.Tally{}) {
			t.Errorf("R1: %v, %d, %v, %v", l, e, v.Sessions(), v.Tally())
		}
	}
	v, e := server.New(nil, some)
	if e != api.OK {
		t.Fatalf("V1: New: %d", e)
	}
	n, _ := v.Connect()
	for _, x := range everything() {
		if f, want := v.Step(n, requestFrame(t, x)), frameOf(t, x.Kind, only(api.Doubt)); f != want {
			t.Errorf("R1: %v of no store: %x", x, f)
		}
	}
}
