package server_test

import (
	"math/rand"
	"slices"
	"strconv"
	"strings"
	"testing"
	"unsafe"

	"scrivener/api"
	"scrivener/server"
)

// overwrite writes into a list and all its spare room.
func overwrite(l []int) {
	l = l[:cap(l)]
	for i := range l {
		l[i] = -7
	}
}

// Lists that come out are new memory, spare room too.
func TestListsAreNew(t *testing.T) {
	w := begin(t, 20, some)
	n := w.connect(t)
	w.grow(t, n, 3)
	for range 8 {
		w.ask(t, n, opens(0, 3, 3))
		w.connect(t)
		one, other := w.server.Sessions(), w.server.Sessions()
		streams, _ := w.server.Streams(n)
		others, _ := w.server.Streams(n)
		was, numbers := slices.Clone(other), slices.Clone(others)
		overwrite(one)
		overwrite(streams)
		if !slices.Equal(other, was) || !slices.Equal(others, numbers) {
			t.Fatal("R2: two lists that came out share memory")
		}
		w.same(t)
	}
}

// isPieceOf tells whether a text stands in another one's memory.
func isPieceOf(s, of string) bool {
	if s == "" || of == "" {
		return false
	}
	begin, first := uintptr(unsafe.Pointer(unsafe.StringData(of))), uintptr(unsafe.Pointer(unsafe.StringData(s)))
	return begin <= first && first < begin+uintptr(len(of))
}

// What is kept of a frame is its entries alone, each a text of its own.
func TestFramesAreNotKept(t *testing.T) {
	w := begin(t, 20, some)
	n := w.connect(t)
	f := requestFrame(t, appends("some entry", strings.Repeat("x", 300)))
	w.step(t, n, f)
	for i := range 2 {
		entry, _ := w.store.Entry(i)
		if isPieceOf(entry, f) {
			t.Errorf("R2: the entry %d is a piece of the frame", i)
		}
		reply := w.server.Step(n, requestFrame(t, api.Request{Kind: api.AskEntries, A: i, B: i + 1, Size: 2}))
		if !strings.Contains(reply, entry) || isPieceOf(entry, reply) {
			t.Errorf("R2: the reply of the entry %d", i)
		}
	}
}

// Limits are taken as they were.
func TestLimitsAreCopied(t *testing.T) {
	w := begin(t, 20, some)
	l := api.Limits{Budget: 100, Chunk: 9, Capacity: 4, Entries: 2}
	v, _ := server.New(w.store, l)
	l.Capacity, l.Entries = 100, 100
	w.server, w.model = v, newModel(t, 20, api.Limits{Budget: 100, Chunk: 9, Capacity: 4, Entries: 2})
	n := w.connect(t)
	w.grow(t, n, 4)
	w.ask(t, n, appends("a"))
	w.ask(t, n, api.Request{Kind: api.AskEntries, B: 3, Size: 4})
}

// Servers that have no part in common do not disturb one another; nor do those of one store which only read.
func TestServersAtOnce(t *testing.T) {
	shared := begin(t, 20, some)
	shared.grow(t, shared.connect(t), 30)
	t.Run("at once", func(t *testing.T) {
		for i := range 8 {
			t.Run(strconv.Itoa(i), func(t *testing.T) {
				t.Parallel()
				r := rand.New(rand.NewSource(int64(i)))
				w := begin(t, 10, some)
				w.connect(t)
				for range 200 {
					w.play(t, actOf(t, r, w.model))
				}
			})
			t.Run("reads "+strconv.Itoa(i), func(t *testing.T) {
				t.Parallel()
				r := rand.New(rand.NewSource(int64(i)))
				v, _ := server.New(shared.store, some)
				w := world{shared.device, shared.store, v, newModel(t, 20, some)}
				w.model.take(shared.model.entries)
				n := w.connect(t)
				for range 200 {
					if x := requestOf(r, 30, 8); x.Kind != api.AskAppend {
						w.ask(t, n, x)
					}
				}
			})
		}
	})
}

// Of two servers over one store each has sessions, streams and a tally of its own.
func TestServersOfOneStore(t *testing.T) {
	w := begin(t, 20, some)
	n := w.connect(t)
	w.grow(t, n, 3)
	w.ask(t, n, opens(0, 3, 3))
	w.ask(t, n, root(2))
	v, _ := server.New(w.store, some)
	if len(v.Sessions()) != 0 || v.Tally() != (api.Tally{}) {
		t.Errorf("V1: a new server: %v, %v", v.Sessions(), v.Tally())
	}
	v.Connect()
	v.Connect()
	if f := v.Step(1, requestFrame(t, pulls(1))); f != "\x02\x0a\x05" {
		t.Errorf("R2: another server's stream: %x", f)
	}
	v.Step(2, requestFrame(t, root(2)))
	v.Close(1)
	w.same(t)
}
