package client_test

import (
	"math/rand"
	"slices"
	"strconv"
	"strings"
	"testing"
	"unsafe"

	"scrivener/api"
	"scrivener/client"
)

// roomy is a list with spare room, in which something stands.
func roomy[T any](l []T, spare T) []T {
	if l == nil {
		return nil
	}
	all := append(slices.Clone(l), spare, spare, spare)
	return all[:len(l)]
}

// overwrite writes into a list and all its spare room.
func overwrite[T any](l []T, x T) {
	l = l[:cap(l)]
	for i := range l {
		l[i] = x
	}
}

// roomyRequest is a request whose lists have spare room.
func roomyRequest(r api.Request) api.Request {
	r.List, r.Entries = roomy(r.List, -7), roomy(r.Entries, "spare")
	var asks []api.Request
	for _, one := range r.Asks {
		asks = append(asks, roomyRequest(one))
	}
	r.Asks = roomy(asks, api.Request{Kind: -7})
	return r
}

func sameRequest(a, b api.Request) bool {
	return a.Kind == b.Kind && a.A == b.A && a.B == b.B && a.Size == b.Size && slices.Equal(a.List[:cap(a.List)], b.List[:cap(b.List)]) &&
		slices.Equal(a.Entries[:cap(a.Entries)], b.Entries[:cap(b.Entries)]) && slices.EqualFunc(a.Asks[:cap(a.Asks)], b.Asks[:cap(b.Asks)], sameRequest)
}

// spoil writes into all lists of a request.
func spoil(r api.Request) {
	for _, one := range r.Asks {
		spoil(one)
	}
	overwrite(r.List, 1)
	overwrite(r.Entries, "x")
	overwrite(r.Asks, api.Request{Kind: api.AskHead})
}

// exchange is a request with leaves, and a reply that is taken.
type exchange struct {
	r      api.Request
	leaves []string
	x      api.Reply
}

// exchanges are one of each kind, of a face of nine entries, for a client that trusts that, and has heard 4 and 6. They can be made again and again.
func exchanges(f face) []exchange {
	l := f.leaves
	return []exchange{
		{appends("a", "b"), nil, api.Reply{Size: 11, A: 9, Root: hashOf("x")}},
		{head(), nil, api.Reply{Size: 12, Root: hashOf("y")}},
		{root(5), nil, api.Reply{Root: f.head(5).Root}},
		{inclusion(2, 9), l[2:3], f.path(2, 9)},
		{many(9, 0, 1, 8), []string{l[0], l[1], l[8]}, f.many(9, 0, 1, 8)},
		{consistency(4, 9), nil, f.proof(4, 9)},
		{heads(4, 6, 9), nil, f.chain(4, 6, 9)},
		{entries(2, 5, 9), nil, f.run(2, 5, 9)},
		{opens(2, 5, 9), nil, api.Reply{A: 1}},
		{pulls(1), nil, f.pulled(2, 4, 9, 0)},
		{closes(1), nil, api.Reply{}},
		{groups(root(5), many(9, 3, 4), consistency(4, 9), heads(6, 9), inclusion(2, 9)), []string{l[3], l[4], l[2]},
			api.Reply{Replies: []api.Reply{{Root: f.head(5).Root}, f.many(9, 3, 4), f.proof(4, 9), f.chain(6, 9), f.path(2, 9)}}},
	}
}

func someone(t *testing.T, f face) pair {
	t.Helper()
	p := begin(t, f.head(9))
	p.hears(t, f.head(4))
	p.hears(t, f.head(6))
	return p
}

// Lists that are handed in are not written into, nor their spare room, and not kept.
func TestListsAreNotKept(t *testing.T) {
	f := numbered("entry", 9)
	p := someone(t, f)
	for range 2 {
		for _, x := range exchanges(f) {
			r, leaves := roomyRequest(x.r), roomy(x.leaves, "spare")
			was, hashes := roomyRequest(x.r), roomy(x.leaves, "spare")
			p.asks(t, r, leaves...)
			if !sameRequest(r, was) || !slices.Equal(leaves[:cap(leaves)], hashes[:cap(hashes)]) {
				t.Errorf("R2: Ask has written into %v", x.r)
			}
			spoil(r)
			overwrite(leaves, hashOf("z"))
			p.takes(t, x.x)
		}
	}
}

// lists are all lists of an outcome.
func lists(o api.Outcome) [][]string {
	l := slices.Concat([][]string{o.Entries}, o.Paths, o.Proofs)
	for _, one := range o.Outcomes {
		l = append(l, lists(one)...)
	}
	return l
}

// Lists that come out, and those within, are new memory, spare room too; no two of them share any.
func TestListsAreNew(t *testing.T) {
	f := numbered("entry", 9)
	p := someone(t, f)
	for range 3 {
		for _, x := range exchanges(f) {
			p.asks(t, x.r, x.leaves...)
			o := p.takes(t, x.x)
			all := lists(o)
			for i, l := range all {
				was := make([][]string, len(all))
				for j, other := range all {
					was[j] = slices.Clone(other)
				}
				overwrite(l, "written")
				for j, other := range all {
					if i != j && !slices.Equal(other, was[j]) {
						t.Errorf("R2: two lists of %v share memory", x.r)
					}
				}
			}
			overwrite(o.Paths, nil)
			overwrite(o.Proofs, nil)
			overwrite(o.Outcomes, api.Outcome{})
			p.same(t)
		}
	}
}

// isPieceOf tells whether a text stands in another one's memory.
func isPieceOf(s, of string) bool {
	begin, first := uintptr(unsafe.Pointer(unsafe.StringData(of))), uintptr(unsafe.Pointer(unsafe.StringData(s)))
	return s != "" && begin <= first && first < begin+uintptr(len(of))
}

// What is kept of a frame is a root, not the frame.
func TestFramesAreNotKept(t *testing.T) {
	f := numbered("entry", 9)
	long := strings.Repeat("x", 1000) + f.head(4).Root
	c, _ := client.New(api.Head{Size: 4, Root: long[1000:]})
	if r, _ := c.Root(4); isPieceOf(r, long) {
		t.Error("R2: the first root is a piece of what was handed in")
	}
	take := func(r api.Request, x api.Reply) string {
		if _, e := c.Ask(r, nil); e != api.OK {
			t.Fatalf("C2: %v: %d", r, e)
		}
		frame := replyFrame(t, r.Kind, x)
		if _, e := c.Take(frame); e != api.OK {
			t.Fatalf("C4: %v: %d", r, e)
		}
		return frame
	}
	frame := take(groups(root(9), root(7)), api.Reply{Replies: []api.Reply{{Root: f.head(9).Root}, {Root: f.head(7).Root}}})
	take(heads(4, 7, 9), f.chain(4, 7, 9))
	for _, size := range []int{7, 9} {
		if r, ok := c.Root(size); !ok || isPieceOf(r, frame) {
			t.Errorf("R2: the root of %d is a piece of a frame", size)
		}
	}
}

// Clients know nothing of one another.
func TestClientsAtOnce(t *testing.T) {
	f := numbered("entry", 9)
	t.Run("at once", func(t *testing.T) {
		for i := range 8 {
			t.Run(strconv.Itoa(i), func(t *testing.T) {
				t.Parallel()
				r := rand.New(rand.NewSource(int64(i)))
				limits := api.Limits{Budget: 300, Chunk: 10, Capacity: 80, Entries: 20}
				l := liar{[2]*host{hostOf(t, limits), hostOf(t, limits)}, 20}
				l.faces[0].grow(t, f.entries...)
				l.faces[1].grow(t, f.entries...)
				p := begin(t, f.head(i))
				for range 200 {
					p.comes(t, r, l, map[[2]int]int{})
				}
			})
		}
	})
	one, other := someone(t, f), someone(t, f)
	for _, x := range exchanges(f) {
		one.asks(t, x.r, x.leaves...)
		if _, e := other.take(t, ""); e != api.ErrClientTurn {
			t.Errorf("R2: another client waits: %d", e)
		}
		one.takes(t, x.x)
		other.same(t)
	}
	if _, e := other.ask(t, pulls(1)); e != api.ErrClientTurn {
		t.Errorf("R2: another client's stream: %d", e)
	}
}
