package client_test

import (
	"math"
	"slices"
	"strconv"
	"strings"
	"testing"

	"scrivener/api"
	"scrivener/batch"
	"scrivener/chain"
	"scrivener/client"
	"scrivener/recursion"
	"scrivener/span"
	"scrivener/tile"
)

var empty = api.Head{Root: hashOf("")}

func head() api.Request { return api.Request{Kind: api.AskHead} }

func root(size int) api.Request { return api.Request{Kind: api.AskRoot, Size: size} }

func inclusion(index, size int) api.Request {
	return api.Request{Kind: api.AskInclusion, A: index, Size: size}
}

func consistency(first, second int) api.Request {
	return api.Request{Kind: api.AskConsistency, A: first, Size: second}
}

func many(size int, indices ...int) api.Request {
	return api.Request{Kind: api.AskBatch, Size: size, List: indices}
}

func heads(l ...int) api.Request { return api.Request{Kind: api.AskChain, List: l} }

func entries(a, b, size int) api.Request {
	return api.Request{Kind: api.AskEntries, A: a, B: b, Size: size}
}

func opens(a, b, size int) api.Request {
	return api.Request{Kind: api.AskOpen, A: a, B: b, Size: size}
}

func pulls(n int) api.Request { return api.Request{Kind: api.AskPull, A: n} }

func closes(n int) api.Request { return api.Request{Kind: api.AskClose, A: n} }

func appends(l ...string) api.Request { return api.Request{Kind: api.AskAppend, Entries: l} }

func groups(l ...api.Request) api.Request { return api.Request{Kind: api.AskGroup, Asks: l} }

func only(s api.Status) api.Reply { return api.Reply{Status: s} }

// face is a log as somebody tells it.
type face struct {
	entries, leaves []string
	tree            *tile.Tree
}

func faceOf(entries ...string) face {
	f := face{entries: entries, leaves: leavesOf(entries)}
	f.tree, _ = tile.New(3)
	for _, l := range f.leaves {
		f.tree.Add(l)
	}
	return f
}

// numbered is a face of so many entries, all unlike.
func numbered(word string, n int) face {
	var l []string
	for i := range n {
		l = append(l, word+" "+strconv.Itoa(i))
	}
	return faceOf(l...)
}

// head is that of a size.
func (f face) head(size int) api.Head {
	r, _ := recursion.Root(f.leaves[:size])
	return api.Head{Size: size, Root: r}
}

func (f face) path(index, size int) api.Reply {
	l, _ := recursion.Path(f.leaves[:size], index)
	return api.Reply{Hashes: l}
}

func (f face) proof(first, second int) api.Reply {
	l, _ := recursion.Proof(f.leaves[:second], first)
	return api.Reply{Hashes: l}
}

func (f face) many(size int, indices ...int) api.Reply {
	b, _ := batch.Prove(f.tree, size, indices)
	return api.Reply{Hashes: b.Hashes}
}

func (f face) chain(heads ...int) api.Reply {
	c, _ := chain.Prove(f.tree, heads)
	return api.Reply{Hashes: c.Hashes}
}

func (f face) run(a, b, size int) api.Reply {
	r, _ := span.Prove(f.tree, size, at(a, b))
	return api.Reply{Entries: f.entries[a:b], Hashes: r.Hashes}
}

// pulled is a chunk of a stream.
func (f face) pulled(a, b, size, over int) api.Reply {
	x := f.run(a, b, size)
	x.A, x.B = a, over
	return x
}

func TestExamples(t *testing.T) {
	f := faceOf("a", "b", "c", "d", "e")
	p := begin(t, empty)
	p.asks(t, head())
	if _, e := p.ask(t, head()); e != api.ErrClientTurn {
		t.Errorf("C2: an ask more: %d", e)
	}
	o, e := p.answered(t, api.Reply{Size: 5, Root: f.head(5).Root})
	if want := (api.Outcome{Kind: api.AskHead, Head: f.head(5)}); e != api.OK || !is(o, want) || p.client.Head() != f.head(5) {
		t.Errorf("C4: Head: %s, %d", shown(o), e)
	}
	if _, e := p.ask(t, inclusion(0, 4), f.leaves[0]); e != api.ErrClientTurn {
		t.Errorf("C2: 4 is not trusted: %d", e)
	}

	p = begin(t, f.head(3))
	p.asks(t, head())
	p.answered(t, api.Reply{Size: 5, Root: f.head(5).Root})
	if _, trusted := p.client.Root(5); trusted {
		t.Error("C4: a head that was only told is trusted")
	}
	p.asks(t, consistency(3, 5))
	p.answered(t, f.proof(3, 5))
	if r, trusted := p.client.Root(5); !trusted || r != f.head(5).Root {
		t.Errorf("C4: 5 is not trusted: %x", r)
	}
	p.asks(t, root(3))
	if _, e := p.answered(t, api.Reply{Root: hashOf("x")}); e != api.ErrClientFork {
		t.Errorf("C4: another root of 3: %d", e)
	}

	for _, x := range []struct {
		frame string
		want  api.Errno
	}{{"\x02\x00\x01", api.ErrClientStatus}, {"x", api.ErrClientReply}} {
		p.asks(t, head())
		if _, e := p.take(t, x.frame); e != x.want || p.client.Waiting() {
			t.Errorf("C3: %x: %d", x.frame, e)
		}
	}
}

func TestNew(t *testing.T) {
	x := hashOf("x")
	for k, h := range []api.Head{
		{}, {Size: -1, Root: empty.Root}, {Size: -1, Root: x}, {Size: math.MinInt, Root: x}, {Size: 1<<40 + 1, Root: x}, {Size: math.MaxInt, Root: x},
		{Root: x}, {Size: 1}, {Size: 1, Root: x[:31]}, {Size: 1, Root: x + "x"}, {Root: empty.Root[:31]}, {Root: empty.Root + "x"}, {Root: strings.Repeat("\x00", 32)},
	} {
		if c, e := client.New(h); c != nil || e != api.ErrArg {
			t.Errorf("C1: line %d: %d", k, e)
		}
	}
	for _, h := range []api.Head{empty, {Size: 1, Root: x}, {Size: 1, Root: empty.Root}, {Size: 1 << 40, Root: x}} {
		p := begin(t, h)
		if p.client.Head() != h || p.client.Waiting() {
			t.Errorf("C1: New(%x): %x", h, p.client.Head())
		}
		if _, e := p.take(t, ""); e != api.ErrClientTurn {
			t.Errorf("C3: Take ahead of an ask: %d", e)
		}
		if _, e := p.take(t, "\x02\x00\x01"); e != api.ErrClientTurn {
			t.Errorf("C3: Take ahead of an ask: %d", e)
		}
	}
}

// What is wrong with an ask is told in the order of C2, and nothing is awaited then.
func TestAskOrder(t *testing.T) {
	f := numbered("entry", 5)
	l := f.leaves[0]
	p := begin(t, f.head(3))
	for k, x := range []struct {
		r      api.Request
		leaves []string
		want   api.Errno
	}{
		{api.Request{}, nil, api.ErrMessageKind},
		{api.Request{Kind: 13}, []string{"x"}, api.ErrMessageKind},
		{api.Request{Kind: -1, A: -1}, nil, api.ErrMessageKind},
		{api.Request{Kind: math.MaxInt}, nil, api.ErrMessageKind},
		{api.Request{Kind: api.AskHead, A: 1}, []string{"x"}, api.ErrMessageField},
		{api.Request{Kind: api.AskInclusion, A: -1, Size: 4}, nil, api.ErrMessageField},
		{inclusion(0, 1<<40+1), []string{l}, api.ErrMessageField},
		{many(4), nil, api.ErrMessageField},
		{many(4, 1, 1), nil, api.ErrMessageField},
		{heads(), nil, api.ErrMessageField},
		{groups(), nil, api.ErrMessageField},
		{groups(head()), nil, api.ErrMessageField},
		{groups(groups(root(1))), nil, api.ErrMessageField},
		{appends(), nil, api.ErrMessageField},
		{appends(make([]string, 33)...), nil, api.ErrMessageField},
		{inclusion(0, 4), nil, api.ErrArg},
		{inclusion(0, 3), nil, api.ErrArg},
		{inclusion(0, 3), []string{l, l}, api.ErrArg},
		{inclusion(0, 3), []string{l[:31]}, api.ErrArg},
		{inclusion(0, 3), []string{l + "x"}, api.ErrArg},
		{inclusion(0, 3), []string{""}, api.ErrArg},
		{many(4, 0, 1), []string{l}, api.ErrArg},
		{many(3, 0, 1), []string{l}, api.ErrArg},
		{many(3, 0, 1), []string{l, l, l}, api.ErrArg},
		{many(3, 0, 1), []string{l, "x"}, api.ErrArg},
		{many(3, 0, 1), []string{"x", l}, api.ErrArg},
		{head(), []string{l}, api.ErrArg},
		{root(1), []string{l}, api.ErrArg},
		{consistency(4, 9), []string{l}, api.ErrArg},
		{consistency(3, 3), []string{l}, api.ErrArg},
		{heads(3), []string{l}, api.ErrArg},
		{entries(0, 1, 3), []string{l}, api.ErrArg},
		{opens(0, 1, 3), []string{l}, api.ErrArg},
		{pulls(1), []string{l}, api.ErrArg},
		{closes(1), []string{l}, api.ErrArg},
		{appends("a"), []string{leafOf("a")}, api.ErrArg},
		{groups(root(1), inclusion(0, 3), many(3, 1, 2)), []string{l, l}, api.ErrArg},
		{groups(root(1), inclusion(0, 3), many(3, 1, 2)), []string{l, l, l, l}, api.ErrArg},
		{groups(root(1), inclusion(0, 3), many(3, 1, 2)), []string{l, l, "x"}, api.ErrArg},
		{groups(root(1), inclusion(0, 4)), nil, api.ErrArg},
		{inclusion(0, 4), []string{l}, api.ErrClientTurn},
		{inclusion(0, 0), []string{l}, api.ErrClientTurn},
		{many(4, 0), []string{l}, api.ErrClientTurn},
		{entries(0, 1, 4), nil, api.ErrClientTurn},
		{opens(0, 1, 4), nil, api.ErrClientTurn},
		{pulls(0), nil, api.ErrClientTurn},
		{pulls(1), nil, api.ErrClientTurn},
		{closes(1 << 40), nil, api.ErrClientTurn},
		{consistency(0, 3), nil, api.ErrClientTurn},
		{consistency(2, 3), nil, api.ErrClientTurn},
		{consistency(3, 5), nil, api.ErrClientTurn},
		{consistency(5, 5), nil, api.ErrClientTurn},
		{heads(2, 3), nil, api.ErrClientTurn},
		{heads(3, 5), nil, api.ErrClientTurn},
		{heads(0), nil, api.ErrClientTurn},
		{groups(root(1), inclusion(0, 4)), []string{l}, api.ErrClientTurn},
		{groups(root(5), consistency(3, 5)), nil, api.ErrClientTurn},
		{groups(inclusion(0, 3), heads(1)), []string{l}, api.ErrClientTurn},
	} {
		if frame, e := p.ask(t, x.r, x.leaves...); frame != "" || e != x.want || p.client.Waiting() {
			t.Errorf("C2: line %d: %d, want %d", k, e, x.want)
		}
	}
	p.asks(t, head())
	for _, r := range []api.Request{head(), {}, {Kind: 13}, inclusion(0, 4), {Kind: api.AskHead, A: 1}} {
		if frame, e := p.ask(t, r, "x"); frame != "" || e != api.ErrClientTurn || !p.client.Waiting() {
			t.Errorf("C2: %v while it waits: %d", r, e)
		}
	}
	if o := p.takes(t, api.Reply{Size: 5, Root: f.head(5).Root}); o.Kind != api.AskHead {
		t.Errorf("C2: what was asked first is not awaited any more: %s", shown(o))
	}
}

// What can be held hangs on what is trusted and what is only heard.
func TestCanBeHeld(t *testing.T) {
	f := numbered("entry", 9)
	p := begin(t, f.head(4))
	p.hears(t, f.head(2))
	p.hears(t, f.head(7))
	p.hears(t, f.head(9))
	l := f.leaves[0]
	for _, x := range []struct {
		r      api.Request
		leaves []string
		ok     bool
	}{
		{inclusion(0, 4), []string{l}, true}, {inclusion(0, 7), []string{l}, false}, {inclusion(0, 2), []string{l}, false},
		{inclusion(4, 4), []string{l}, true}, {inclusion(1<<40, 4), []string{l}, true},
		{many(4, 0), []string{l}, true}, {many(7, 0), []string{l}, false},
		{entries(0, 1, 4), nil, true}, {entries(0, 1, 7), nil, false}, {entries(3, 1, 4), nil, true}, {entries(0, 9, 4), nil, true},
		{opens(0, 1, 4), nil, true}, {opens(0, 1, 2), nil, false}, {opens(5, 5, 4), nil, true},
		{consistency(4, 7), nil, true}, {consistency(2, 4), nil, true}, {consistency(7, 4), nil, true}, {consistency(4, 4), nil, true},
		{consistency(2, 7), nil, false}, {consistency(7, 9), nil, false}, {consistency(4, 8), nil, false}, {consistency(3, 4), nil, false}, {consistency(7, 7), nil, false},
		{heads(2, 4, 7, 9), nil, true}, {heads(2, 4), nil, true}, {heads(4, 9), nil, true}, {heads(4), nil, true}, {heads(2, 7, 9), nil, false},
		{heads(7), nil, false}, {heads(2, 4, 8), nil, false}, {heads(1, 4), nil, false}, {heads(0, 4), nil, false},
		{root(5), nil, true}, {root(0), nil, true}, {root(1 << 40), nil, true}, {head(), nil, true}, {appends(""), nil, true},
		{groups(root(3), consistency(2, 4), heads(4, 7)), nil, true}, {groups(consistency(4, 7), heads(7, 9)), nil, false},
		{groups(consistency(4, 7), inclusion(0, 7)), []string{l}, false},
	} {
		_, e := p.ask(t, x.r, x.leaves...)
		if x.ok != (e == api.OK) || !x.ok && e != api.ErrClientTurn {
			t.Errorf("C2: %v: %d", x.r, e)
		}
		p.take(t, "")
	}
}

// Whatever comes, it waits no more; what is wrong is told in the order of C3, and changes nothing.
func TestTakeOrder(t *testing.T) {
	f := numbered("entry", 5)
	right := api.Reply{Size: 5, Root: f.head(5).Root}
	told := replyFrame(t, api.AskHead, right)
	one := replyFrame(t, api.AskRoot, api.Reply{Root: f.head(2).Root})
	for k, x := range []struct {
		r     api.Request
		frame string
		want  api.Errno
	}{
		{head(), told, api.OK},
		{head(), told + "x", api.ErrClientReply},
		{head(), told + told, api.ErrClientReply},
		{head(), told[:len(told)-1], api.ErrClientReply},
		{head(), "", api.ErrClientReply},
		{head(), one, api.ErrClientReply},
		{root(2), told, api.ErrClientReply},
		{head(), strings.Repeat("\x80", 20), api.ErrClientReply},
		{head(), "\x01\x02", api.ErrClientReply},
		{head(), "\x02\x00\x00", api.ErrClientReply},
		{head(), "\x02\x00\x09", api.ErrClientReply},
		{head(), "\x02\x02\x09", api.ErrClientReply},
		{head(), "\x02\x00\x01x", api.ErrClientReply},
		{head(), "\x02\x02\x01x", api.ErrClientReply},
		{head(), "\x02\x03\x02", api.ErrClientReply},
		{groups(root(2)), "\x02\x03\x02", api.ErrClientReply},
		{groups(root(2)), "\x02\x0c\x02", api.ErrClientStatus},
		{groups(root(2)), "\x02\x00\x02", api.ErrClientStatus},
	} {
		p := begin(t, f.head(3))
		p.asks(t, x.r)
		if _, e := p.take(t, x.frame); e != x.want || p.client.Waiting() {
			t.Errorf("C3: line %d: %d, want %d", k, e, x.want)
		}
		if _, e := p.take(t, told); e != api.ErrClientTurn {
			t.Errorf("C3: line %d: taken twice: %d", k, e)
		}
	}
	for s := api.BadFrame; s <= api.Doubt; s++ {
		for _, kind := range []int{0, api.AskHead} {
			p := begin(t, f.head(3))
			p.asks(t, head())
			if _, e := p.take(t, replyFrame(t, kind, only(s))); e != api.ErrClientStatus {
				t.Errorf("C3: the status %d of the kind %d: %d", s, kind, e)
			}
		}
	}
}

// A head is trusted by being told just if nothing but the empty log is trusted.
func TestFirstTrust(t *testing.T) {
	f, g := numbered("entry", 9), numbered("other", 9)
	for _, first := range []api.Request{head(), appends("entry 3", "entry 4")} {
		p := begin(t, empty)
		p.asks(t, head())
		p.takes(t, api.Reply{Root: empty.Root})
		p.hears(t, g.head(5))
		p.hears(t, f.head(2))
		p.hears(t, empty)
		if p.client.Head() != empty {
			t.Errorf("C4: a root that was asked for is trusted: %x", p.client.Head())
		}
		x := api.Reply{Size: 5, Root: f.head(5).Root}
		if first.Kind == api.AskAppend {
			x.A = 3
		}
		p.asks(t, first)
		if o := p.takes(t, x); !is(o, api.Outcome{Kind: first.Kind, First: x.A, Head: f.head(5)}) || p.client.Head() != f.head(5) {
			t.Errorf("C4: the first head: %s, %x", shown(o), p.client.Head())
		}
		if r, ok := p.client.Root(0); r != empty.Root || !ok {
			t.Errorf("C5: the empty log is trusted no more: %x, %v", r, ok)
		}
		// What was heard stays so: of 2 the root, of 5 nothing.
		p.asks(t, consistency(2, 5))
		p.takes(t, f.proof(2, 5))
		for _, size := range []int{5, 2, 0} {
			p.asks(t, head())
			if _, e := p.answered(t, api.Reply{Size: size, Root: hashOf("x")}); e != api.ErrClientFork {
				t.Errorf("C4: another head of %d: %d", size, e)
			}
		}
		for _, size := range []int{9, 1} {
			p.asks(t, head())
			p.takes(t, api.Reply{Size: size, Root: f.head(size).Root})
			if p.client.Head() != f.head(5) {
				t.Errorf("C4: a head of %d is trusted: %x", size, p.client.Head())
			}
		}
	}
}

// The empty log has one root, whoever asks, and whether it is trusted or not.
func TestEmptyLog(t *testing.T) {
	for _, h := range []api.Head{empty, numbered("entry", 3).head(3)} {
		for _, r := range []api.Request{head(), root(0)} {
			p := begin(t, h)
			for _, wrong := range []string{hashOf("x"), strings.Repeat("\x00", 32)} {
				p.asks(t, r)
				if _, e := p.answered(t, api.Reply{Root: wrong}); e != api.ErrClientFork || p.client.Head() != h {
					t.Errorf("C4: %v of the empty log to one who trusts %d: %d", r, h.Size, e)
				}
			}
			p.asks(t, r)
			if o := p.takes(t, api.Reply{Root: empty.Root}); !is(o, api.Outcome{Kind: r.Kind, Head: empty}) || p.client.Head() != h {
				t.Errorf("C4: %v of the empty log to one who trusts %d: %s", r, h.Size, shown(o))
			}
		}
	}
}

// Of a size that is not trusted the last root counts that was told, by whatever.
func TestHeard(t *testing.T) {
	f, g := numbered("entry", 9), numbered("other", 9)
	tell := map[string]func(p pair, h api.Head){
		"Head": func(p pair, h api.Head) {
			p.asks(t, head())
			p.takes(t, api.Reply{Size: h.Size, Root: h.Root})
		},
		"Append": func(p pair, h api.Head) {
			p.asks(t, appends("a", "b"))
			p.takes(t, api.Reply{Size: h.Size, A: h.Size - 2, Root: h.Root})
		},
		"Root": func(p pair, h api.Head) { p.hears(t, h) },
		"a group": func(p pair, h api.Head) {
			p.asks(t, groups(root(h.Size)))
			p.takes(t, api.Reply{Replies: []api.Reply{{Root: h.Root}}})
		},
	}
	for one, first := range tell {
		for other, second := range tell {
			p := begin(t, f.head(4))
			first(p, g.head(9))
			p.asks(t, consistency(4, 9))
			if _, e := p.answered(t, f.proof(4, 9)); e != api.ErrClientProof {
				t.Errorf("C4: a root that %s told wrong: %d", one, e)
			}
			second(p, f.head(9))
			p.asks(t, consistency(4, 9))
			if _, e := p.answered(t, f.proof(4, 9)); e != api.OK || p.client.Head() != f.head(9) {
				t.Errorf("C4: a root that %s told behind %s: %d", other, one, e)
			}
		}
	}
}

func TestAppend(t *testing.T) {
	f := numbered("entry", 40)
	for _, x := range []struct {
		entries, first, size int
		want                 api.Errno
	}{
		{1, 4, 5, api.OK}, {32, 4, 36, api.OK}, {2, 4, 5, api.ErrClientReply}, {1, 5, 5, api.ErrClientReply}, {1, 3, 5, api.ErrClientReply},
		{1, 0, 0, api.ErrClientReply}, {1, 1 << 40, 1 << 40, api.ErrClientReply}, {1, 1<<40 - 1, 1 << 40, api.OK}, {1, 0, 1, api.OK}, {5, 2, 7, api.ErrClientFork}, {5, 1, 7, api.ErrClientReply},
	} {
		p := begin(t, f.head(7))
		p.asks(t, appends(f.entries[:x.entries]...))
		o, e := p.answered(t, api.Reply{Size: x.size, A: x.first, Root: hashOf("x")})
		if want := (api.Outcome{Kind: api.AskAppend, First: x.first, Head: api.Head{Size: x.size, Root: hashOf("x")}}); e != x.want || e == api.OK && !is(o, want) {
			t.Errorf("C4: an Append of %d at %d, of %d: %s, %d, want %d", x.entries, x.first, x.size, shown(o), e, x.want)
		}
	}
}

// Every root, path, proof, batch, chain and run of all small sizes is taken, as layer 3 has it, and with one bit or hash other than that is not.
func TestProofs(t *testing.T) {
	f := numbered("entry", 7)
	for size := 1; size <= 7; size++ {
		for a := range size {
			takesJust(t, f, inclusion(a, size), f.path(a, size), []string{f.leaves[a]}, api.Outcome{Paths: [][]string{f.path(a, size).Hashes}})
			takesJust(t, f, consistency(a+1, size), f.proof(a+1, size), nil, api.Outcome{Proofs: [][]string{f.proof(a+1, size).Hashes}})
			for b := a + 1; b <= size; b++ {
				takesJust(t, f, entries(a, b, size), f.run(a, b, size), nil, api.Outcome{First: a, Entries: f.entries[a:b]})
			}
		}
	}
	for set := 1; set < 1<<7; set++ {
		var l, sizes []int
		var leaves []string
		var paths, proofs [][]string
		for i := range 7 {
			if set>>i&1 == 0 {
				continue
			}
			if len(sizes) > 0 {
				proofs = append(proofs, f.proof(sizes[len(sizes)-1], i+1).Hashes)
			}
			l, sizes, leaves = append(l, i), append(sizes, i+1), append(leaves, f.leaves[i])
			paths = append(paths, f.path(i, 7).Hashes)
		}
		takesJust(t, f, many(7, l...), f.many(7, l...), leaves, api.Outcome{Paths: paths})
		takesJust(t, f, heads(sizes...), f.chain(sizes...), nil, api.Outcome{Proofs: proofs})
	}
}

// sizeOf is the size of the head that an outcome has.
func sizeOf(r api.Request) int {
	if r.Kind == api.AskChain {
		return r.List[len(r.List)-1]
	}
	return r.Size
}

// takesJust holds a client that trusts the size, and has heard all others, to an honest reply, and to such ones as have something else.
func takesJust(t *testing.T, f face, r api.Request, x api.Reply, leaves []string, want api.Outcome) {
	t.Helper()
	size := sizeOf(r)
	p := begin(t, f.head(size))
	for n := 1; n <= 7; n++ {
		p.hears(t, f.head(n))
	}
	for k, wrong := range spoilt(x) {
		p.asks(t, r, leaves...)
		if _, e := p.answered(t, wrong); e != api.ErrClientProof && (e != api.ErrClientReply || len(wrong.Entries) == len(x.Entries)) {
			t.Errorf("C4: %v, spoilt in the way %d: %d", r, k, e)
		}
	}
	for i := range leaves {
		others := slices.Clone(leaves)
		others[i] = hashOf("x")
		p.asks(t, r, others...)
		if _, e := p.answered(t, x); e != api.ErrClientProof {
			t.Errorf("C4: %v of another leaf: %d", r, e)
		}
	}
	p.asks(t, r, leaves...)
	want.Kind, want.Head = r.Kind, f.head(size)
	if o, e := p.answered(t, x); e != api.OK || !is(o, want) {
		t.Errorf("C4: %v: %s, %d, want %s", r, shown(o), e, shown(want))
	}
	joined := r.List
	if r.Kind == api.AskConsistency {
		joined = []int{r.A}
	}
	for n := 1; n <= 7; n++ {
		now, trusted := p.client.Root(n)
		isJoined := slices.Contains(joined, n) && (r.Kind == api.AskConsistency || r.Kind == api.AskChain)
		if trusted != (n == size || isJoined) || trusted && now != f.head(n).Root {
			t.Errorf("C4: %v: the root of %d: %x, %v", r, n, now, trusted)
		}
	}
}

// spoilt are replies that have a hash or an entry other than that one, one more, one less, or two in each other's place.
func spoilt(x api.Reply) []api.Reply {
	var all []api.Reply
	for _, l := range others(x.Hashes, hashOf("x")) {
		y := x
		y.Hashes = l
		all = append(all, y)
	}
	if len(x.Entries) == 0 {
		return all
	}
	for _, l := range others(x.Entries, "x") {
		y := x
		y.Entries = l
		all = append(all, y)
	}
	return all
}

func others(l []string, other string) [][]string {
	all := [][]string{append(slices.Clone(l), other), append([]string{other}, l...)}
	for i := range l {
		changed, swapped := slices.Clone(l), slices.Clone(l)
		changed[i] = other
		all = append(all, changed, slices.Delete(slices.Clone(l), i, i+1))
		if i > 0 {
			swapped[i-1], swapped[i] = l[i], l[i-1]
			all = append(all, swapped)
		}
		if len(l[i]) > 0 {
			b := []byte(l[i])
			b[len(b)-1] ^= 1
			flipped := slices.Clone(l)
			flipped[i] = string(b)
			all = append(all, flipped)
		}
	}
	return all
}

// Sizes, indices and spans that no log has are asked for, and no reply is accepted.
func TestWhatNoLogHas(t *testing.T) {
	f := numbered("entry", 6)
	l := f.leaves[0]
	for _, first := range []api.Head{empty, f.head(4)} {
		for _, r := range []api.Request{
			inclusion(0, 0), inclusion(4, 4), inclusion(1<<40, 4), many(0, 0), many(4, 4), many(4, 1<<40),
			consistency(0, 0), consistency(0, 4), consistency(0, 6), consistency(4, 0), consistency(6, 4), consistency(4, 2), heads(0), heads(0, 4), heads(0, 4, 6),
			entries(0, 0, 0), entries(0, 0, 4), entries(2, 2, 4), entries(4, 4, 4), entries(3, 5, 4), entries(4, 5, 4), entries(0, 5, 4), entries(3, 2, 4), entries(0, 1, 0), entries(1<<40-1, 1<<40, 4),
		} {
			p := begin(t, first)
			if first != empty {
				p.hears(t, empty)
			}
			p.hears(t, f.head(2))
			p.hears(t, f.head(6))
			for n := range 6 {
				_, e := p.ask(t, r, slices.Repeat([]string{l}, wants(r))...)
				if e != api.OK {
					break
				}
				x := api.Reply{Hashes: f.leaves[:n]}
				if r.Kind == api.AskEntries {
					x.Entries = f.entries[:max(0, min(r.B-r.A, 6))]
				}
				want := api.ErrClientProof
				if r.B < r.A && r.Kind == api.AskEntries {
					want = api.ErrClientReply
				}
				if _, e := p.answered(t, x); e != want {
					t.Errorf("C4: %v: %d, want %d", r, e, want)
				}
			}
		}
	}
}

func TestEntries(t *testing.T) {
	f := numbered("entry", 9)
	p := begin(t, f.head(9))
	for _, x := range []struct {
		r    api.Request
		x    api.Reply
		want api.Errno
	}{
		{entries(2, 5, 9), f.run(2, 5, 9), api.OK},
		{entries(2, 5, 9), f.run(2, 4, 9), api.ErrClientReply},
		{entries(2, 5, 9), f.run(2, 6, 9), api.ErrClientReply},
		{entries(2, 5, 9), f.run(3, 6, 9), api.ErrClientProof},
		{entries(2, 5, 9), f.run(2, 5, 8), api.ErrClientProof},
		{entries(2, 5, 9), api.Reply{}, api.ErrClientReply},
		{entries(5, 2, 9), api.Reply{}, api.ErrClientReply},
		{entries(5, 5, 9), api.Reply{}, api.ErrClientProof},
		{entries(0, 9, 9), f.run(0, 9, 9), api.OK},
	} {
		p.asks(t, x.r)
		if _, e := p.answered(t, x.x); e != x.want {
			t.Errorf("C4: %v: %d, want %d", x.r, e, x.want)
		}
	}
}

func TestStreams(t *testing.T) {
	f := numbered("entry", 9)
	p := begin(t, f.head(9))
	open := func(n, a, b int) (api.Outcome, api.Errno) {
		p.asks(t, opens(a, b, 9))
		return p.answered(t, api.Reply{A: n})
	}
	if o, e := open(3, 2, 7); e != api.OK || !is(o, api.Outcome{Kind: api.AskOpen, First: 3, Head: f.head(9)}) {
		t.Errorf("C4: Open: %s, %d", shown(o), e)
	}
	if _, e := open(3, 0, 1); e != api.ErrClientReply {
		t.Errorf("C4: a stream of the same number: %d", e)
	}
	for k, x := range []struct {
		x    api.Reply
		want api.Errno
	}{
		{f.pulled(1, 4, 9, 0), api.ErrClientReply}, // not the next one
		{f.pulled(3, 4, 9, 0), api.ErrClientReply},
		{api.Reply{A: 2}, api.ErrClientReply}, // none
		{api.Reply{A: 2, B: 1}, api.ErrClientReply},
		{f.pulled(2, 8, 9, 0), api.ErrClientReply}, // too many
		{f.pulled(2, 8, 9, 1), api.ErrClientReply},
		{f.pulled(2, 7, 9, 0), api.ErrClientReply}, // it is over
		{f.pulled(2, 4, 9, 1), api.ErrClientReply}, // it is not
		{f.pulled(2, 4, 8, 0), api.ErrClientProof}, // of another size
		{api.Reply{A: 2, Entries: f.entries[2:4]}, api.ErrClientProof},
		{api.Reply{A: 2, Entries: f.entries[3:5], Hashes: f.run(2, 4, 9).Hashes}, api.ErrClientProof},
		{only(api.NoStream), api.ErrClientStatus},
		{f.pulled(2, 4, 9, 0), api.OK},
		{f.pulled(2, 4, 9, 0), api.ErrClientReply}, // again
		{f.pulled(4, 5, 9, 0), api.OK},
		{f.pulled(5, 7, 9, 0), api.ErrClientReply},
		{f.pulled(5, 8, 9, 1), api.ErrClientReply},
		{f.pulled(5, 7, 9, 1), api.OK},
	} {
		p.asks(t, pulls(3))
		o, e := p.answered(t, x.x)
		want := api.Outcome{Kind: api.AskPull, First: x.x.A, Over: x.x.B == 1, Head: f.head(9), Entries: x.x.Entries}
		if e != x.want || e == api.OK && !is(o, want) {
			t.Errorf("C4: Pull %d: %s, %d, want %d", k, shown(o), e, x.want)
		}
	}
	for _, r := range []api.Request{pulls(3), closes(3)} {
		if _, e := p.ask(t, r); e != api.ErrClientTurn {
			t.Errorf("C2: %v of what is over: %d", r, e)
		}
	}
	if _, e := open(3, 0, 1); e != api.OK {
		t.Errorf("C4: the number of what is over: %d", e)
	}
	p.asks(t, closes(3))
	if _, e := p.answered(t, only(api.NoStream)); e != api.ErrClientStatus {
		t.Errorf("C3: Close: %d", e)
	}
	p.asks(t, closes(3))
	if o, e := p.answered(t, api.Reply{}); e != api.OK || !is(o, api.Outcome{Kind: api.AskClose, First: 3}) {
		t.Errorf("C4: Close: %s, %d", shown(o), e)
	}
	if _, e := p.ask(t, pulls(3)); e != api.ErrClientTurn {
		t.Errorf("C2: Pull of what was closed: %d", e)
	}
}

// Streams have what they were opened with, each its own, however many there are; what no log has is opened, if it is told so, and never pulled.
func TestManyStreams(t *testing.T) {
	f := numbered("entry", 9)
	p := begin(t, f.head(9))
	p.hears(t, f.head(6))
	p.asks(t, consistency(6, 9))
	p.takes(t, f.proof(6, 9))
	for n, r := range map[int]api.Request{0: opens(0, 2, 6), 1 << 40: opens(0, 9, 9), 7: opens(3, 6, 6), 8: opens(8, 9, 9)} {
		p.asks(t, r)
		p.takes(t, api.Reply{A: n})
	}
	for _, x := range []struct {
		n int
		x api.Reply
	}{{7, f.pulled(3, 4, 6, 0)}, {0, f.pulled(0, 2, 6, 1)}, {8, f.pulled(8, 9, 9, 1)}, {1 << 40, f.pulled(0, 3, 9, 0)}, {7, f.pulled(4, 6, 6, 1)}, {1 << 40, f.pulled(3, 9, 9, 1)}} {
		p.asks(t, pulls(x.n))
		p.takes(t, x.x)
	}
	for n := range 20 {
		p.asks(t, opens(n, n, 9))
		p.takes(t, api.Reply{A: n})
	}
	for k, r := range []api.Request{opens(5, 2, 9), opens(0, 0, 9), opens(7, 12, 9), opens(1<<40, 1<<40, 9), opens(1<<40, 0, 9)} {
		p.asks(t, r)
		p.takes(t, api.Reply{A: 100 + k})
		for _, x := range []api.Reply{
			{A: r.A}, {A: r.A, B: 1}, {A: r.A, Entries: f.entries[:3]}, {A: r.A, B: 1, Entries: f.entries[:3]},
			{A: r.A, B: 1, Entries: f.entries[:5], Hashes: f.leaves[:3]}, f.pulled(2, 5, 9, 0), f.pulled(0, 9, 9, 1),
		} {
			p.asks(t, pulls(100+k))
			if _, e := p.answered(t, x); e == api.OK {
				t.Errorf("C4: Pull of %v: %x", r, x)
			}
		}
	}
	// Of a span that ends behind the log, what the log has is told all the same.
	p.asks(t, pulls(102))
	p.takes(t, f.pulled(7, 9, 9, 0))
	p.asks(t, pulls(102))
	if _, e := p.answered(t, api.Reply{A: 9, B: 1, Entries: f.entries[:3]}); e != api.ErrClientProof {
		t.Errorf("C4: Pull behind the log: %d", e)
	}
}

func TestGroups(t *testing.T) {
	f := numbered("entry", 9)
	x, l := hashOf("x"), f.leaves
	for k, c := range []struct {
		asks    []api.Request
		leaves  []string
		replies []api.Reply
		want    api.Errno
	}{
		{[]api.Request{root(8)}, nil, []api.Reply{{Root: x}}, api.OK},
		{[]api.Request{root(8)}, nil, []api.Reply{{}}, api.ErrClientReply},
		{[]api.Request{root(8)}, nil, []api.Reply{{Hashes: l[:1]}}, api.ErrClientReply},
		{[]api.Request{root(8)}, nil, []api.Reply{{Root: x}, {Root: x}}, api.ErrClientReply},
		{[]api.Request{root(8), root(7)}, nil, []api.Reply{{Root: x}}, api.ErrClientReply},
		{[]api.Request{root(8), root(7)}, nil, []api.Reply{{Root: x}, only(api.NotThere)}, api.ErrClientStatus},
		{[]api.Request{root(8), root(7)}, nil, []api.Reply{only(api.TooLong)}, api.ErrClientStatus},
		{[]api.Request{root(8)}, nil, []api.Reply{{}, only(api.Doubt)}, api.ErrClientStatus},
		{[]api.Request{root(9), root(8)}, nil, []api.Reply{{Root: x}, {}}, api.ErrClientReply}, // ahead of the fork
		{[]api.Request{root(9)}, nil, []api.Reply{{Root: x}}, api.ErrClientFork},
		{[]api.Request{root(0)}, nil, []api.Reply{{Root: x}}, api.ErrClientFork},
		{[]api.Request{root(0), root(0)}, nil, []api.Reply{{Root: empty.Root}, {Root: x}}, api.ErrClientFork},
		{[]api.Request{inclusion(2, 9)}, l[2:3], []api.Reply{{Root: x}}, api.ErrClientReply},
		{[]api.Request{consistency(9, 9)}, nil, []api.Reply{{Root: x}}, api.ErrClientReply},
		{[]api.Request{consistency(9, 9)}, nil, []api.Reply{{}}, api.OK},
		{[]api.Request{heads(9)}, nil, []api.Reply{{Root: x}}, api.ErrClientReply},
		{[]api.Request{many(9, 2)}, l[2:3], []api.Reply{{Root: x}}, api.ErrClientReply},
		{[]api.Request{inclusion(2, 9), many(9, 0, 8), inclusion(4, 9)}, []string{l[2], l[0], l[8], l[4]}, []api.Reply{f.path(2, 9), f.many(9, 0, 8), f.path(4, 9)}, api.OK},
		{[]api.Request{inclusion(2, 9), many(9, 0, 8), inclusion(4, 9)}, []string{l[2], l[8], l[0], l[4]}, []api.Reply{f.path(2, 9), f.many(9, 0, 8), f.path(4, 9)}, api.ErrClientProof},
		{[]api.Request{inclusion(2, 9), inclusion(4, 9)}, []string{l[2], l[4]}, []api.Reply{f.path(4, 9), f.path(2, 9)}, api.ErrClientProof},
		{[]api.Request{root(9), inclusion(4, 9)}, l[4:5], []api.Reply{{Root: x}, {}}, api.ErrClientFork},           // the first error
		{[]api.Request{inclusion(4, 9), root(9)}, l[4:5], []api.Reply{{}, {Root: x}}, api.ErrClientProof},          // likewise
		{[]api.Request{inclusion(4, 9), root(9)}, l[4:5], []api.Reply{f.path(4, 9), {Root: x}}, api.ErrClientFork}, // the last one
	} {
		p := begin(t, f.head(9))
		p.asks(t, groups(c.asks...), c.leaves...)
		o, e := p.answered(t, api.Reply{Replies: c.replies})
		if e != c.want || e == api.OK && (o.Kind != api.AskGroup || len(o.Outcomes) != len(c.asks) || o.Head != api.Head{}) {
			t.Errorf("C4: group %d: %s, %d, want %d", k, shown(o), e, c.want)
		}
	}
}

// Each ask of a group is looked at by what those ahead of it have said; with an error nothing of all is changed.
func TestGroupsInOrder(t *testing.T) {
	f, g := numbered("entry", 9), numbered("other", 9)
	asks := groups(root(9), consistency(4, 9), root(9), heads(4, 6, 9), root(6), root(7))
	replies := []api.Reply{{Root: f.head(9).Root}, f.proof(4, 9), {Root: f.head(9).Root}, f.chain(4, 6, 9), {Root: f.head(6).Root}, {Root: g.head(7).Root}}
	heard := func() pair {
		p := begin(t, f.head(4))
		p.hears(t, g.head(9))
		p.hears(t, f.head(6))
		p.hears(t, f.head(7))
		return p
	}
	p := heard()
	p.asks(t, asks)
	o := p.takes(t, api.Reply{Replies: replies})
	want := api.Outcome{Kind: api.AskGroup, Outcomes: []api.Outcome{
		{Kind: api.AskRoot, Head: f.head(9)},
		{Kind: api.AskConsistency, Head: f.head(9), Proofs: [][]string{f.proof(4, 9).Hashes}},
		{Kind: api.AskRoot, Head: f.head(9)},
		{Kind: api.AskChain, Head: f.head(9), Proofs: [][]string{f.proof(4, 6).Hashes, f.proof(6, 9).Hashes}},
		{Kind: api.AskRoot, Head: f.head(6)},
		{Kind: api.AskRoot, Head: g.head(7)},
	}}
	if !is(o, want) || p.client.Head() != f.head(9) {
		t.Errorf("C4: a group: %s", shown(o))
	}
	p.asks(t, consistency(7, 9))
	if _, e := p.answered(t, f.proof(7, 9)); e != api.ErrClientProof {
		t.Errorf("C4: the last root of 7 that was told is another one: %d", e)
	}

	for k, wrong := range []api.Reply{{Root: g.head(9).Root}, {}, {Root: g.head(9).Root}, {}, {Root: g.head(6).Root}} {
		p := heard()
		bad := slices.Clone(replies)
		bad[k] = wrong
		p.asks(t, asks)
		if _, e := p.answered(t, api.Reply{Replies: bad}); e == api.OK || p.client.Head() != f.head(4) {
			t.Errorf("C4: a group whose part %d is wrong: %d, %x", k, e, p.client.Head())
		}
		// What was heard is what it was: of 9 the other face's root, of 6 and 7 the log's.
		p.asks(t, consistency(4, 9))
		if _, e := p.answered(t, f.proof(4, 9)); e != api.ErrClientProof {
			t.Errorf("C4: behind a wrong group: the root of 9: %d", e)
		}
		p.asks(t, heads(4, 6, 7))
		if _, e := p.answered(t, f.chain(4, 6, 7)); e != api.OK {
			t.Errorf("C4: behind a wrong group: the roots of 6 and 7: %d", e)
		}
	}
}

// What the last wrong part of a group spoils is all of it, also that which had been heard for the first time.
func TestGroupsHearNothing(t *testing.T) {
	f := numbered("entry", 9)
	p := begin(t, f.head(4))
	p.asks(t, groups(root(9), root(4)))
	if _, e := p.answered(t, api.Reply{Replies: []api.Reply{{Root: f.head(9).Root}, {Root: hashOf("x")}}}); e != api.ErrClientFork {
		t.Errorf("C4: a group with a fork: %d", e)
	}
	if _, e := p.ask(t, consistency(4, 9)); e != api.ErrClientTurn {
		t.Errorf("C2: 9 was heard in a group that went wrong: %d", e)
	}
}

// The full group, of the greatest batches and chains.
func TestGreatGroup(t *testing.T) {
	f := numbered("entry", 300)
	p := begin(t, f.head(300))
	var asks []api.Request
	var replies []api.Reply
	var leaves []string
	for i := range 64 {
		switch i % 3 {
		case 0:
			var l []int
			for j := range 256 {
				l = append(l, j+i/2)
			}
			asks, replies, leaves = append(asks, many(300, l...)), append(replies, f.many(300, l...)), append(leaves, f.leaves[i/2:i/2+256]...)
		case 1:
			asks, replies, leaves = append(asks, inclusion(i, 300)), append(replies, f.path(i, 300)), append(leaves, f.leaves[i])
		case 2:
			asks, replies = append(asks, root(i)), append(replies, api.Reply{Root: f.head(i).Root})
		}
	}
	p.asks(t, groups(asks...), leaves...)
	p.takes(t, api.Reply{Replies: replies})
	var sizes []int
	for n := 237; n <= 300; n++ {
		p.hears(t, f.head(n))
		sizes = append(sizes, n)
	}
	p.asks(t, groups(heads(sizes...)))
	p.takes(t, api.Reply{Replies: []api.Reply{f.chain(sizes...)}})
	p.asks(t, heads(sizes...))
	p.takes(t, f.chain(sizes...))
}

// The greatest sizes: paths and proofs of trees of which nobody has the leaves.
func TestGreatSizes(t *testing.T) {
	hashes := func(n int) []string {
		var l []string
		for i := range n {
			l = append(l, hashOf(strconv.Itoa(i)))
		}
		return l
	}
	for _, size := range []int{1 << 40, 1<<40 - 1, 1<<39 + 1} {
		for _, index := range []int{0, 1, size / 2, size/2 + 1, size - 2, size - 1} {
			n := 0
			for path := hashes(0); ; n, path = n+1, hashes(n+1) {
				root, ok := pathRoot(size, index, hashOf("leaf"), path)
				if !ok {
					continue
				}
				p := begin(t, api.Head{Size: size, Root: root})
				p.asks(t, inclusion(index, size), hashOf("leaf"))
				if _, e := p.answered(t, api.Reply{Hashes: path}); e != api.OK {
					t.Errorf("C4: %d of %d: %d", index, size, e)
				}
				p.asks(t, inclusion(index, size), hashOf("leaf"))
				if _, e := p.answered(t, api.Reply{Hashes: append(path, path[0])}); e != api.ErrClientProof {
					t.Errorf("C4: %d of %d, a hash more: %d", index, size, e)
				}
				break
			}
		}
		p := begin(t, api.Head{Size: 1 << 38, Root: hashOf("old")})
		for n := 0; ; n++ {
			_, now, ok := proofRoots(1<<38, size, true, hashOf("old"), hashes(n))
			if !ok {
				continue
			}
			p.asks(t, head())
			p.takes(t, api.Reply{Size: size, Root: now})
			p.asks(t, consistency(1<<38, size))
			p.takes(t, api.Reply{Hashes: hashes(n)})
			p.asks(t, heads(1<<38, size))
			p.takes(t, api.Reply{Hashes: hashes(n)})
			break
		}
	}
}

// Calls on what New did not make, or gave beside an error.
func TestNothingPanics(t *testing.T) {
	none, _ := client.New(api.Head{})
	for _, c := range []*client.Client{nil, none, {}} {
		for _, r := range []api.Request{head(), root(1), appends("a"), inclusion(0, 0), {}, pulls(0), groups(root(1))} {
			if f, e := c.Ask(r, nil); f != "" || e != api.ErrClientTurn {
				t.Errorf("R1: Ask: %x, %d", f, e)
			}
			if o, e := c.Take("\x02\x00\x01"); e != api.ErrClientTurn || !is(o, api.Outcome{}) {
				t.Errorf("R1: Take: %s, %d", shown(o), e)
			}
		}
		if r, ok := c.Root(0); r != "" || ok || c.Waiting() || c.Head() != (api.Head{}) {
			t.Errorf("R1: %x, %v, %v, %v", r, ok, c.Waiting(), c.Head())
		}
	}
}
