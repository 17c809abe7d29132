package span_test

import (
	"math/rand"
	"slices"
	"strconv"
	"testing"

	"scrivener/api"
	"scrivener/batch"
	"scrivener/device"
	"scrivener/digest"
	"scrivener/frontier"
	"scrivener/recursion"
	"scrivener/shape"
	"scrivener/span"
	"scrivener/store"
	"scrivener/tile"
	"scrivener/verify"
)

// What follows: P6, and with it P1, P2 and P5 of the whole as far as they speak of runs and streams.

// indicesOf are those of a run's leaves.
func indicesOf(s api.Span) []int {
	var l []int
	for i := s.Begin; i < s.End; i++ {
		l = append(l, i)
	}
	return l
}

// asRecursion holds what is told of a run to what layer 3 says of the first leaves of the tree.
func asRecursion(t *testing.T, x *tile.Tree, l []string, size int, s api.Span) {
	t.Helper()
	r, e := span.Prove(x, size, s)
	if e != api.OK {
		t.Fatalf("P1: Prove(%d, %v): %d", size, s, e)
	}
	if s.End-s.Begin <= 256 {
		if want, e := recursion.Many(l[:size], indicesOf(s)); !slices.Equal(r.Hashes, want) || e != api.OK {
			t.Errorf("P6: Prove(%d, %v): not what layer 3 says: %d", size, s, e)
		}
	}
	want, _ := recursion.Root(l[:size])
	if root, e := span.Root(r, l[s.Begin:s.End]); root != want || e != api.OK {
		t.Errorf("P6: Root(%d, %v): not the tree's: %d", size, s, e)
	}
	if is, _ := x.Root(size); span.Check(r, l[s.Begin:s.End], is) != api.OK {
		t.Errorf("P6: Check(%d, %v): not taken under layer 7's root", size, s)
	}
}

func TestAsRecursion(t *testing.T) {
	r := rand.New(rand.NewSource(11))
	l := some(80, "leaf")
	for height := 1; height <= 8; height++ {
		x := grown(t, height, l)
		for n := 1; n <= 70; n++ {
			for range 6 {
				b := r.Intn(n)
				asRecursion(t, x, l, n, at(b, b+1+r.Intn(n-b)))
			}
			asRecursion(t, x, l, n, at(0, n))
			asRecursion(t, x, l, n, at(n-1, n))
		}
	}
}

func TestAsRecursionOfGreatLists(t *testing.T) {
	r := rand.New(rand.NewSource(12))
	l := some(api.MaxList, "leaf")
	x := grown(t, 5, append(slices.Clone(l), some(1000, "behind")...))
	for _, n := range []int{255, 256, 257, 1000, 2048, 2049, 4095, 4096} {
		for _, length := range []int{1, 2, 255, 256, 257, n - 1, n} {
			length = min(length, n)
			asRecursion(t, x, l, n, at(0, length))
			asRecursion(t, x, l, n, at(n-length, n))
			b := r.Intn(n - length + 1)
			asRecursion(t, x, l, n, at(b, b+length))
		}
		if testing.Short() && n > 256 {
			break
		}
	}
}

// byRanges is what layer 5 makes of a run that is right: the range left of it, joined to that of the leaves, and to those told right of it. The last of these may be no complete subtree: then its hash is joined to the nodes from the right, as those of an edge are.
func byRanges(t *testing.T, r api.Run, leaves []string) string {
	t.Helper()
	spans, e := shape.Run(r.Size, at(r.Begin, r.End))
	if e != api.OK || len(spans) != len(r.Hashes) {
		t.Fatalf("layer 8: Run(%d, [%d, %d)): %d", r.Size, r.Begin, r.End, e)
	}
	left := 0
	for left < len(spans) && spans[left].End <= r.Begin {
		left++
	}
	own, e := frontier.Compact(r.Begin, leaves)
	if e != api.OK {
		t.Fatalf("layer 5: Compact: %d", e)
	}
	all, e := frontier.Join(api.Range{End: r.Begin, Hashes: r.Hashes[:left]}, own)
	if e != api.OK {
		t.Fatalf("P6: what is told left of [%d, %d) of %d is no range: %d", r.Begin, r.End, r.Size, e)
	}
	for i, s := range spans[left:] {
		hash := r.Hashes[left+i]
		next, e := frontier.Join(all, api.Range{Begin: s.Begin, End: s.End, Hashes: []string{hash}})
		if e == api.OK {
			all = next
			continue
		}
		if s.End != r.Size {
			t.Fatalf("P6: %v, right of [%d, %d) of %d, is no range: %d", s, r.Begin, r.End, r.Size, e)
		}
		slices.Reverse(all.Hashes)
		for _, h := range all.Hashes {
			hash = node(h, hash)
		}
		return hash
	}
	root, e := frontier.RootOf(all)
	if e != api.OK || all.End != r.Size {
		t.Fatalf("layer 5: RootOf [%d, %d): %d", all.Begin, all.End, e)
	}
	return root
}

func isByRanges(t *testing.T, r api.Run, leaves []string) {
	t.Helper()
	if root, e := span.Root(r, leaves); root != byRanges(t, r, leaves) || e != api.OK {
		t.Errorf("P6: Root of [%d, %d) of %d: not what layer 5 makes of the ranges: %d", r.Begin, r.End, r.Size, e)
	}
}

// Any hashes, any leaves: of all runs of small sizes, of some of great ones.
func TestByRanges(t *testing.T) {
	for n := 1; n <= 34; n++ {
		for b := range n {
			for e := b + 1; e <= n; e++ {
				count := len(toldIn(at(0, n), at(b, e)))
				isByRanges(t, api.Run{Size: n, Begin: b, End: e, Hashes: some(count, "told")}, some(e-b, "leaf"))
			}
		}
	}
	r := rand.New(rand.NewSource(13))
	for _, n := range greatSizes(r) {
		for _, s := range append(runsOf(r, n), at(n/2, min(n, n/2+4096))) {
			count := len(toldIn(at(0, n), s))
			isByRanges(t, api.Run{Size: n, Begin: s.Begin, End: s.End, Hashes: some(count, "told")}, some(s.End-s.Begin, "leaf"))
		}
	}
}

// isAccepted holds a run of the form, of at most 256 leaves, to layers 4 and 12: under a root it is taken just if each of its paths is taken alone. It tells whether it is.
func isAccepted(t *testing.T, r api.Run, leaves []string, root string) bool {
	t.Helper()
	b := api.Batch{Size: r.Size, Indices: indicesOf(at(r.Begin, r.End)), Hashes: r.Hashes}
	paths, e := batch.Expand(b, leaves)
	if e != api.OK || len(paths) != len(leaves) {
		t.Fatalf("layer 12: Expand: %d paths, %d", len(paths), e)
	}
	each, want := true, api.ErrSpanRoot
	for i, path := range paths {
		each = each && verify.Inclusion(r.Size, r.Begin+i, leaves[i], path, root) == api.OK
	}
	if each {
		want = api.OK
	}
	if e := span.Check(r, leaves, root); e != want {
		t.Errorf("P2: [%d, %d) of %d: Check: %d, but layer 4 takes each: %t", r.Begin, r.End, r.Size, e, each)
	}
	return each
}

// Each hash and each leaf counts, and its place: with another one there, or two changed about, a run does not lead to the root.
func TestEachHashCounts(t *testing.T) {
	l := some(17, "leaf")
	x, m := grown(t, 2, l), modelOf(l)
	for n := 1; n <= len(l); n++ {
		root := m.hash(at(0, n))
		for b := range n {
			for e := b + 1; e <= n; e++ {
				r, leaves := isProve(t, x, m, n, at(b, e)), m.leaves(at(b, e))
				if !isAccepted(t, r, leaves, root) {
					t.Errorf("P2: [%d, %d) of %d: not taken", b, e, n)
				}
				for _, list := range [][]string{r.Hashes, leaves} {
					for i := range list {
						kept := list[i]
						list[i] = hashOf(kept)
						if isAccepted(t, r, leaves, root) {
							t.Errorf("P2: [%d, %d) of %d with another hash is taken", b, e, n)
						}
						list[i] = kept
						if k := (i + 1) % len(list); k != i {
							list[i], list[k] = list[k], list[i]
							if isAccepted(t, r, leaves, root) {
								t.Errorf("P2: [%d, %d) of %d with two changed about is taken", b, e, n)
							}
							list[i], list[k] = list[k], list[i]
						}
					}
				}
			}
		}
	}
}

// Also of trees of up to 2^40 leaves.
func TestEachHashOfGreatSizesCounts(t *testing.T) {
	r := rand.New(rand.NewSource(14))
	for _, n := range greatSizes(r) {
		for _, s := range runsOf(r, n) {
			run := api.Run{Size: n, Begin: s.Begin, End: s.End, Hashes: some(len(toldIn(at(0, n), s)), "told")}
			leaves := some(s.End-s.Begin, "leaf")
			root, _ := slowRoot(run, leaves)
			if !isAccepted(t, run, leaves, root) {
				t.Errorf("P2: %v of %d: not taken", s, n)
			}
			list := [][]string{run.Hashes, leaves}[r.Intn(2)]
			if len(list) == 0 {
				continue
			}
			i := r.Intn(len(list))
			list[i] = hashOf(list[i])
			if isAccepted(t, run, leaves, root) {
				t.Errorf("P2: %v of %d with another hash is taken", s, n)
			}
		}
	}
}

// At another place, or of another size, a run is none, or leads to where the words say.
func TestOtherPlaces(t *testing.T) {
	l := some(11, "leaf")
	x, m := grown(t, 2, l), modelOf(l)
	for n := 1; n <= len(l); n++ {
		for b := range n {
			for e := b + 1; e <= n; e++ {
				r, leaves := isProve(t, x, m, n, at(b, e)), m.leaves(at(b, e))
				for _, by := range []struct{ size, begin, end int }{{1, 0, 0}, {-1, 0, 0}, {0, 1, 1}, {0, -1, -1}, {0, 0, 1}, {0, 1, 0}, {1, 1, 1}} {
					isRoot(t, api.Run{Size: n + by.size, Begin: b + by.begin, End: e + by.end, Hashes: r.Hashes}, leaves)
				}
			}
		}
	}
}

// What comes behind the size, and the height of the tiles, changes nothing.
func TestFirstLeavesAlone(t *testing.T) {
	r := rand.New(rand.NewSource(15))
	l := some(33, "leaf")
	for _, n := range []int{1, 2, 3, 4, 7, 8, 16, 21, 32, 33} {
		b := r.Intn(n)
		s := at(b, b+1+r.Intn(n-b))
		want, _ := span.Prove(grown(t, 1, l[:n]), n, s)
		for height := 1; height <= 8; height++ {
			x := grown(t, height, l[:n])
			for behind, more := range []int{0, 1, 1, 5, 31, 64} {
				adds(t, x, some(more, "behind "+strconv.Itoa(behind)))
				if r, e := span.Prove(x, n, s); !sameRun(r, want) || e != api.OK {
					t.Errorf("P1: height %d: of %v of %d another thing is told, now that there are %d: %d", height, s, n, x.Size(), e)
				}
			}
		}
	}
}

// streamed are a stream's entries, taken by a joiner chunk by chunk; each chunk is held to the budget, and proved as a run of the stream's size.
func streamed(t *testing.T, log *store.Store, size int, x api.Span, budget int, between func()) []string {
	t.Helper()
	was, _ := log.Entries(x)
	root, _ := log.Tree().Root(size)
	s, e := span.Open(log, size, x, budget)
	j, f := span.NewJoiner(x)
	if e != api.OK || f != api.OK {
		t.Fatalf("P3, P5: %v of %d: %d, %d", x, size, e, f)
	}
	for chunks := 0; !j.Done(); chunks++ {
		if chunks == x.End-x.Begin {
			t.Fatalf("P6: %v of %d with the budget %d does not end", x, size, budget)
		}
		between()
		l, first, over, e := s.Next()
		if e != api.OK || j.Take(first, l) != api.OK || over != j.Done() {
			t.Fatalf("P6: %v of %d with the budget %d: a chunk of %d entries from %d on is not taken: %d", x, size, budget, len(l), first, e)
		}
		isFilled(t, was[first-x.Begin:], len(l), budget)
		isProved(t, log, size, first, l, root)
	}
	isOver(t, s)
	if !slices.Equal(j.Entries(), was) {
		t.Errorf("P6: %v of %d with the budget %d: not the entries that there were", x, size, budget)
	}
	return j.Entries()
}

// isFilled holds a chunk to the budget, of which it has as many entries as there may be, but one at least.
func isFilled(t *testing.T, entries []string, n, budget int) {
	t.Helper()
	bytes := 2 * n
	for _, entry := range entries[:n] {
		bytes += len(entry)
	}
	if n > 1 && bytes > budget || n > 4096 || n < 1 {
		t.Errorf("P5: a chunk of %d entries, %d bytes, with the budget %d", n, bytes, budget)
	}
	if n < len(entries) && n < 4096 && bytes+2+len(entries[n]) <= budget {
		t.Errorf("P6: a chunk of %d entries could have the next one, too", n)
	}
}

// isProved holds a chunk to the root of the stream's size.
func isProved(t *testing.T, log *store.Store, size, first int, entries []string, root string) {
	t.Helper()
	var leaves []string
	for _, entry := range entries {
		leaves = append(leaves, digest.Leaf(entry))
	}
	r, e := span.Prove(log.Tree(), size, at(first, first+len(entries)))
	if e != api.OK || span.Check(r, leaves, root) != api.OK {
		t.Errorf("P6: a chunk of %d entries from %d on is not proved: %d", len(entries), first, e)
	}
}

func TestStreamsAreJoined(t *testing.T) {
	r := rand.New(rand.NewSource(16))
	for range 15 {
		_, log := laid(t, 4096)
		appends(t, log, anyEntries(r, 1+r.Intn(120)))
		for range 15 {
			size := 1 + r.Intn(log.Size())
			b := r.Intn(size)
			budget := 1 + r.Intn([]int{3, 30, 300, 3000, api.MaxBudget}[r.Intn(5)])
			grows := r.Intn(2) == 0
			streamed(t, log, size, at(b, b+1+r.Intn(size-b)), budget, func() {
				if grows && r.Intn(4) == 0 {
					appends(t, log, anyEntries(r, 1))
				}
			})
		}
	}
}

// A log that is opened again tells the same.
func TestStreamsOfALogOpenedAgain(t *testing.T) {
	r := rand.New(rand.NewSource(17))
	d, log := logOf(t, anyEntries(r, 90)...)
	for range 30 {
		size := 1 + r.Intn(log.Size())
		b := r.Intn(size)
		x, budget := at(b, b+1+r.Intn(size-b)), 1+r.Intn(2000)
		d.Arm(1 + r.Intn(3))
		if _, e := log.Append(anyEntries(r, 3)); e != api.ErrDead {
			t.Fatalf("layer 10: Append: %d", e)
		}
		var keeps []api.Keep
		if len(d.Pending()) > 0 {
			keeps = append(keeps, api.Keep{Bytes: r.Intn(256)})
		}
		if e := d.Crash(keeps); e != api.OK {
			t.Fatalf("layer 9: Crash: %d", e)
		}
		again, e := store.Open(d)
		if e != api.OK {
			t.Fatalf("layer 10: Open: %d", e)
		}
		other := found(t, must(again.Entries(at(0, again.Size()))))
		if !slices.Equal(streamed(t, again, size, x, budget, func() {}), streamed(t, other, size, x, budget, func() {})) {
			t.Errorf("P6: %v of %d: another log tells other entries", x, size)
		}
		log = again
	}
}

func must(l []string, e api.Errno) []string {
	if e != api.OK {
		panic("layer 10: Entries: " + strconv.Itoa(int(e)))
	}
	return l
}

// The trees of a log on a device: one that grows, and that of the log when it is opened again.
func TestTreesOfAStore(t *testing.T) {
	disk, _ := device.New(64)
	if e := store.Format(disk); e != api.OK {
		t.Fatalf("layer 10: Format: %d", e)
	}
	log, e := store.Open(disk)
	if e != api.OK {
		t.Fatalf("layer 10: Open: %d", e)
	}
	var l []string
	for i := range 30 {
		entries := []string{"entry " + strconv.Itoa(i), "", "more"}[:1+i%3]
		appends(t, log, entries)
		for _, entry := range entries {
			l = append(l, digest.Leaf(entry))
		}
		again, _ := store.Open(disk)
		for _, x := range []*tile.Tree{log.Tree(), again.Tree()} {
			asRecursion(t, x, l, len(l), at(0, len(l)))
			asRecursion(t, x, l, len(l), at(len(l)/3, len(l)/3+1))
			asRecursion(t, x, l, len(l)/2+1, at(0, len(l)/2+1))
		}
	}
}

// A log of two faces: a run of the one is not taken under the root of the other.
func TestTwoFaces(t *testing.T) {
	l := some(12, "leaf")
	x, m := grown(t, 2, l), modelOf(l)
	for place := range l {
		face := slices.Clone(l)
		face[place] = hashOf("another face")
		y, o := grown(t, 2, face), modelOf(face)
		for size := 1; size <= len(l); size++ {
			for b := range size {
				for e := b + 1; e <= size; e++ {
					s := at(b, e)
					r, q := isProve(t, x, m, size, s), isProve(t, y, o, size, s)
					for _, root := range []string{m.hash(at(0, size)), o.hash(at(0, size))} {
						same := place >= size
						if got := isAccepted(t, q, o.leaves(s), root); got != (same || root == o.hash(at(0, size))) {
							t.Errorf("P2: entry %d is another one: %v of %d: taken: %t", place, s, size, got)
						}
						if got := isAccepted(t, r, m.leaves(s), root); got != (same || root == m.hash(at(0, size))) {
							t.Errorf("P2: entry %d is another one: %v of %d: taken: %t", place, s, size, got)
						}
					}
				}
			}
		}
	}
}
