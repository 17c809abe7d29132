package span_test

import (
	"fmt"
	"math/rand"
	"slices"
	"strconv"
	"strings"
	"testing"
	"unsafe"

	"scrivener/api"
	"scrivener/span"
	"scrivener/tile"
)

// overwrite writes into a list and all its spare room.
func overwrite[E any](l []E, with E) {
	l = l[:cap(l)]
	for i := range l {
		l[i] = with
	}
}

// roomy is a list with spare room, in which something stands.
func roomy(l []string) []string {
	all := append(slices.Clone(l), slices.Repeat([]string{"room"}, 5)...)
	return all[:len(l)]
}

// isRoomy tells whether such a list and its spare room are as they were.
func isRoomy(l, was []string) bool {
	return slices.Equal(l, was) && slices.Equal(l[len(l):len(l)+5], slices.Repeat([]string{"room"}, 5))
}

// tilesOf are all that a tree keeps.
func tilesOf(x *tile.Tree) [][]string {
	all := [][]string{{strconv.Itoa(x.Size()), strconv.Itoa(x.Height())}}
	for level := range 8 {
		for index := 0; ; index++ {
			row, e := x.Tile(level, index)
			if e != api.OK {
				break
			}
			all = append(all, row)
		}
	}
	return all
}

// What is handed in is not written into, nor its spare room, whether it is refused or not.
func TestListsAreNotWritten(t *testing.T) {
	l := some(20, "leaf")
	m := modelOf(l)
	for _, s := range append(noRuns(20), at(0, 1), at(0, 20), at(3, 11), at(19, 20)) {
		r, e := m.prove(20, s)
		hashes, leaves := [][]string{{l[0], "x"}}, [][]string{nil, {"x"}}
		if e == api.OK {
			hashes, leaves = append(hashes, r.Hashes), append(leaves, m.leaves(s))
		}
		for _, told := range hashes {
			for _, own := range leaves {
				a, b := roomy(told), roomy(own)
				run := api.Run{Size: 20, Begin: s.Begin, End: s.End, Hashes: a}
				span.Root(run, b)
				span.Check(run, b, l[0])
				if !isRoomy(a, told) || !isRoomy(b, own) {
					t.Errorf("R2: of %v hashes or leaves were written into", s)
				}
			}
		}
	}
	w := joinerOf(t, at(2, 9))
	for i, in := range [][]string{{"a", "b"}, nil, {text(1, 1001)}, {"c"}, make([]string, 9), {"d", "", "e", "f"}, {"x"}} {
		given := roomy(in)
		w.take(2+len(w.entries), given...)
		if !isRoomy(given, in) {
			t.Errorf("R2: the list %d of a Take was written into", i)
		}
		w.entries = slices.Clone(w.entries)
		overwrite(given, "over")
		w.is()
	}
}

// What came out is not what comes out of another call: writing into the one changes nothing of the other, nor of the tree.
func TestRunsAreNew(t *testing.T) {
	r := rand.New(rand.NewSource(21))
	l := some(70, "leaf")
	for height := 1; height <= 8; height++ {
		x, m := grown(t, height, l), modelOf(l)
		before := tilesOf(x)
		for n := 1; n <= len(l); n++ {
			b := r.Intn(n)
			s := at(b, b+1+r.Intn(n-b))
			want, _ := m.prove(n, s)
			one, _ := span.Prove(x, n, s)
			two, _ := span.Prove(x, n, s)
			overwrite(two.Hashes, "over")
			if !sameRun(one, want) {
				t.Fatalf("R2: Prove(%d, %v): two lists share memory", n, s)
			}
			overwrite(one.Hashes, "over")
			isProve(t, x, m, n, s)
		}
		if !slices.EqualFunc(tilesOf(x), before, slices.Equal) {
			t.Errorf("R2: height %d: writing into the lists has changed the tree", height)
		}
	}
}

// A run that came out stays as it is when the tree goes on.
func TestRunsStay(t *testing.T) {
	r := rand.New(rand.NewSource(22))
	x := grown(t, 1, nil)
	var all, copies []api.Run
	for n, leaf := range some(60, "leaf") {
		adds(t, x, []string{leaf})
		one, _ := span.Prove(x, n+1, at(r.Intn(n+1), n+1))
		all = append(all, one)
		one.Hashes = slices.Clone(one.Hashes)
		copies = append(copies, one)
	}
	if !slices.EqualFunc(all, copies, sameRun) {
		t.Error("R2: a run was written into when the tree went on")
	}
}

// Asking changes nothing of the tree, whether it is refused or not.
func TestTreeStays(t *testing.T) {
	l := some(37, "leaf")
	for height := 1; height <= 8; height++ {
		x, m := grown(t, height, l[:20]), modelOf(l[:20])
		before := tilesOf(x)
		for n := 1; n <= 22; n++ {
			for _, s := range append(noRuns(n), at(0, n), at(n/2, n), at(0, n/2)) {
				isProve(t, x, m, n, s)
			}
		}
		for _, n := range odd() {
			isProve(t, x, m, n, at(0, 1))
		}
		if !slices.EqualFunc(tilesOf(x), before, slices.Equal) {
			t.Errorf("R2: height %d: asking has changed the tree", height)
		}
		adds(t, x, l[20:])
		isProve(t, x, modelOf(l), 37, at(5, 30))
	}
}

// What is answered does not hang on what was asked ahead of it, of this tree or another one.
func TestNothingIsKept(t *testing.T) {
	a, b := some(25, "leaf"), append(some(7, "leaf"), some(18, "other")...)
	x, y := grown(t, 2, a), grown(t, 2, b)
	m, o := modelOf(a), modelOf(b)
	for size := range 27 {
		for _, s := range []api.Span{at(0, 1), at(size-1, size), at(3, 9), at(0, size)} {
			one, two := isProve(t, x, m, size, s), isProve(t, y, o, size, s)
			if one.Size == 0 {
				continue
			}
			// The same places, now with the one's leaves and now with the other's.
			isRoot(t, one, m.leaves(s))
			isRoot(t, two, o.leaves(s))
			isRoot(t, one, o.leaves(s))
			isRoot(t, two, m.leaves(s))
		}
	}
}

// A chunk is new memory: writing into it changes nothing of the store, of other chunks, or of other streams.
func TestChunksAreNew(t *testing.T) {
	r := rand.New(rand.NewSource(23))
	_, log := logOf(t, anyEntries(r, 80)...)
	was, _ := log.Entries(at(0, 80))
	for range 20 {
		budget := 1 + r.Intn(3000)
		one, two := opened(t, log, 80, at(0, 80), budget), opened(t, log, 80, at(0, 80), budget)
		var all, copies [][]string
		for len(one.entries) > 0 {
			l, _ := one.next()
			all, copies = append(all, l), append(copies, slices.Clone(l))
			l, _ = two.next()
			overwrite(l, "over")
		}
		for i, l := range all {
			if !slices.Equal(l, copies[i]) {
				t.Error("R2: a chunk was written into")
			}
			overwrite(l, "over")
			for k := i + 1; k < len(all); k++ {
				if !slices.Equal(all[k], copies[k]) {
					t.Error("R2: two chunks share memory")
				}
			}
		}
		if l, _ := log.Entries(at(0, 80)); !slices.Equal(l, was) {
			t.Fatal("R2: writing into chunks has changed the store")
		}
	}
}

// Streaming changes nothing of the store, and is no act of its device.
func TestStoreStays(t *testing.T) {
	d, log := logOf(t, "a", "bb", "", "ccc")
	pages, before := d.Pages(), tilesOf(log.Tree())
	d.Arm(5)
	for budget := 1; budget < 20; budget++ {
		opened(t, log, 4, at(0, 4), budget).goneOver()
		span.Open(log, 9, at(0, 4), budget)
		span.Open(log, 4, at(0, 4), -budget)
	}
	if log.Size() != 4 || log.Doubt() || !slices.Equal(d.Pages(), pages) || len(d.Pending()) != 0 || !slices.EqualFunc(tilesOf(log.Tree()), before, slices.Equal) {
		t.Error("R2: streaming has changed the store")
	}
	if _, e := log.Append([]string{"d"}); e != api.OK {
		t.Errorf("R2: streaming was an act: %d", e)
	}
}

// Joiners keep nothing of what is handed in, hand out nothing of their own, and do not disturb one another.
func TestJoinersAreApart(t *testing.T) {
	r := rand.New(rand.NewSource(24))
	var all []*joined
	for range 6 {
		all = append(all, joinerOf(t, at(3, 60)))
	}
	for range 400 {
		w := all[r.Intn(len(all))]
		in := anyEntries(r, 1+r.Intn(4))
		kept := slices.Clone(in)
		if e := w.j.Take(3+len(w.entries), in); e == api.OK {
			w.entries = slices.Concat(w.entries, kept)
		}
		overwrite(in, "over")
		one, two := w.j.Entries(), w.j.Entries()
		overwrite(one, "over")
		if !slices.Equal(two, w.entries) {
			t.Fatal("R2: two lists of Entries share memory")
		}
		for _, w := range all {
			w.is()
		}
	}
	// A list that came out stays as it is when the joiner goes on.
	w := joinerOf(t, at(0, 40))
	var lists [][]string
	for i := range 40 {
		lists = append(lists, w.j.Entries())
		w.take(i, text(i, i))
	}
	for i, l := range lists {
		if !slices.Equal(l, w.entries[:i]) {
			t.Errorf("R2: the list of %d entries was written into", i)
		}
	}
}

// A stream that is over keeps its store no longer.
func TestKeptNoLonger(t *testing.T) {
	_, log := logOf(t, "a", "b")
	s, _ := span.Open(log, 2, at(0, 2), 1)
	for i, keeps := range []bool{true, true, false} {
		if written := fmt.Sprintf("%#v", *s); strings.Contains(written, "store.Store") != keeps {
			t.Errorf("behind %d chunks: %s", i, written)
		}
		s.Next()
	}
}

// A joiner keeps no text of which an entry is a piece.
func TestPiecesAreCopied(t *testing.T) {
	long := text(1, 5000)
	w := joinerOf(t, at(0, 1))
	w.take(0, long[1000:1100])
	if unsafe.StringData(w.j.Entries()[0]) == unsafe.StringData(long[1000:]) {
		t.Error("R2: a joiner keeps what was handed in")
	}
}

func TestCallsAtOnce(t *testing.T) {
	r := rand.New(rand.NewSource(25))
	l := some(40, "leaf")
	x, m := grown(t, 2, l), modelOf(l)
	run, leaves := isProve(t, x, m, 40, at(7, 21)), m.leaves(at(7, 21))
	entries := anyEntries(r, 60)
	_, log := logOf(t, entries...)
	t.Run("at once", func(t *testing.T) {
		for i := range 8 {
			t.Run(strconv.Itoa(i), func(t *testing.T) {
				t.Parallel()
				for n := 30; n <= 40; n++ {
					isProve(t, x, m, n, at(i, 30))
				}
				isRoot(t, run, leaves)
				w := joinerOf(t, at(i, 60))
				for _, chunk := range opened(t, log, 60, at(i, 60), 500+i).goneOver() {
					w.take(i+len(w.entries), chunk...)
				}
				if !slices.Equal(w.j.Entries(), entries[i:]) {
					t.Error("P6: not the entries")
				}
			})
		}
	})
}
