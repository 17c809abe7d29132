package span_test

import (
	"crypto/sha256"
	"encoding/binary"
	"math"
	"math/rand"
	"slices"
	"strconv"
	"strings"
	"testing"

	"scrivener/api"
	"scrivener/device"
	"scrivener/span"
	"scrivener/store"
	"scrivener/tile"
)

// The model takes the words as they stand: it goes down through subtrees by a recursion, and knows of leaves, told subtrees and nodes alone; of a chunk it asks one by one whether it may have so many entries.

func hashOf(text string) string {
	h := sha256.Sum256([]byte(text))
	return string(h[:])
}

func node(left, right string) string { return hashOf("\x01" + left + right) }

// some are n hashes, unlike those of another kind.
func some(n int, kind string) []string {
	l := make([]string, n)
	for i := range l {
		l[i] = hashOf(kind + " " + strconv.Itoa(i))
	}
	return l
}

func at(b, e int) api.Span { return api.Span{Begin: b, End: e} }

// half is the greatest power of two below n.
func half(n int) int {
	k := 1
	for 2*k < n {
		k *= 2
	}
	return k
}

// parts are the left and the right one.
func parts(s api.Span) (api.Span, api.Span) {
	middle := s.Begin + half(s.End-s.Begin)
	return at(s.Begin, middle), at(middle, s.End)
}

// model has the leaves of a tree, and above them, level by level, the nodes of neighbours, so that a great tree's spans are told soon.
type model struct{ levels [][]string }

func modelOf(leaves []string) model {
	levels := [][]string{leaves}
	for len(leaves) > 1 {
		above := make([]string, len(leaves)/2)
		for i := range above {
			above[i] = node(leaves[2*i], leaves[2*i+1])
		}
		levels, leaves = append(levels, above), above
	}
	return model{levels}
}

func (m model) size() int { return len(m.levels[0]) }

func (m model) leaves(s api.Span) []string { return slices.Clone(m.levels[0][s.Begin:s.End]) }

func (m model) hash(s api.Span) string {
	n := s.End - s.Begin
	for level, row := range m.levels {
		if n == 1<<level && s.Begin%n == 0 {
			return row[s.Begin/n]
		}
	}
	left, right := parts(s)
	return node(m.hash(left), m.hash(right))
}

func isRun(size int, s api.Span) bool {
	return size >= 1 && 0 <= s.Begin && s.Begin < s.End && s.End <= size
}

// toldIn are the told subtrees within one: itself, if it has none of the run's leaves; none, if it has no others.
func toldIn(on, run api.Span) []api.Span {
	switch {
	case on.End <= run.Begin || on.Begin >= run.End:
		return []api.Span{on}
	case run.Begin <= on.Begin && on.End <= run.End:
		return nil
	}
	left, right := parts(on)
	return append(toldIn(left, run), toldIn(right, run)...)
}

func (m model) prove(size int, s api.Span) (api.Run, api.Errno) {
	if size > m.size() || !isRun(size, s) {
		return api.Run{}, api.ErrSpanRange
	}
	r := api.Run{Size: size, Begin: s.Begin, End: s.End}
	for _, x := range toldIn(at(0, size), s) {
		r.Hashes = append(r.Hashes, m.hash(x))
	}
	return r, api.OK
}

// slowRoot is the hash of the whole tree, by what is told and the leaves.
func slowRoot(r api.Run, leaves []string) (string, api.Errno) {
	run := at(r.Begin, r.End)
	if r.Size > 1<<40 || !isRun(r.Size, run) {
		return "", api.ErrSpanRange
	}
	told := toldIn(at(0, r.Size), run)
	if len(r.Hashes) != len(told) || len(leaves) != r.End-r.Begin || len(leaves) > 4096 {
		return "", api.ErrSpanForm
	}
	if slices.ContainsFunc(slices.Concat(r.Hashes, leaves), func(h string) bool { return len(h) != 32 }) {
		return "", api.ErrSpanForm
	}
	var hash func(s api.Span) string
	hash = func(s api.Span) string {
		if i := slices.Index(told, s); i >= 0 {
			return r.Hashes[i]
		}
		if s.End-s.Begin == 1 {
			return leaves[s.Begin-r.Begin]
		}
		left, right := parts(s)
		return node(hash(left), hash(right))
	}
	return hash(at(0, r.Size)), api.OK
}

func sameRun(a, b api.Run) bool {
	return a.Size == b.Size && a.Begin == b.Begin && a.End == b.End && slices.Equal(a.Hashes, b.Hashes)
}

// grown is a tree of tiles with some leaves.
func grown(t *testing.T, height int, leaves []string) *tile.Tree {
	t.Helper()
	x, e := tile.New(height)
	if x == nil || e != api.OK {
		t.Fatalf("layer 7: New(%d): %d", height, e)
	}
	adds(t, x, leaves)
	return x
}

func adds(t *testing.T, x *tile.Tree, leaves []string) {
	t.Helper()
	for i, leaf := range leaves {
		if e := x.Add(leaf); e != api.OK {
			t.Fatalf("layer 7: Add of leaf %d: %d", i, e)
		}
	}
}

// isProve tells the run, too.
func isProve(t *testing.T, x *tile.Tree, m model, size int, s api.Span) api.Run {
	t.Helper()
	want, wantE := m.prove(size, s)
	r, e := span.Prove(x, size, s)
	if !sameRun(r, want) || e != wantE {
		t.Errorf("P1: of %d leaves: Prove(%d, %v): %x, %d, want %x, %d", m.size(), size, s, r, e, want, wantE)
	}
	return r
}

// isRoot holds Root and Check to the words, of anything.
func isRoot(t *testing.T, r api.Run, leaves []string) {
	t.Helper()
	want, wantE := slowRoot(r, leaves)
	root, e := span.Root(r, leaves)
	if root != want || e != wantE {
		t.Errorf("P2: Root of [%d, %d) of %d with %d hashes and %d leaves: %x, %d, want %x, %d", r.Begin, r.End, r.Size, len(r.Hashes), len(leaves), root, e, want, wantE)
	}
	if e := span.Check(r, leaves, want); e != wantE {
		t.Errorf("P2: Check of [%d, %d) of %d under its root: %d, want %d", r.Begin, r.End, r.Size, e, wantE)
	}
	other := api.ErrSpanRoot
	if wantE != api.OK {
		other = wantE
	}
	if e := span.Check(r, leaves, hashOf(want)); e != other {
		t.Errorf("P2: Check of [%d, %d) of %d under another root: %d, want %d", r.Begin, r.End, r.Size, e, other)
	}
}

// greatSizes are about the powers of two, up to the greatest one.
func greatSizes(r *rand.Rand) []int {
	var sizes []int
	for i := 4; i <= 40; i++ {
		sizes = append(sizes, 1<<i-1, 1<<i)
		if i < 40 {
			sizes = append(sizes, 1<<i+1, 1<<i+r.Intn(1<<i))
		}
	}
	return append(sizes, 1<<40-2, 1<<39+1<<20)
}

// runsOf are some runs of a size, of few leaves, at its ends, about its middle, and anywhere.
func runsOf(r *rand.Rand, size int) []api.Span {
	var l []api.Span
	for _, length := range []int{1, 2, 3, 1 + r.Intn(40)} {
		length = min(length, size)
		for _, b := range []int{0, 1, half(size) - 1, half(size), size - length, size - length - 1, r.Intn(size)} {
			if isRun(size, at(b, b+length)) {
				l = append(l, at(b, b+length))
			}
		}
	}
	return l
}

// odd are numbers that no size has: nought and below, above the greatest, at the ends.
func odd() []int {
	l := []int{math.MinInt, math.MinInt + 1, -3, -2, -1, 0, math.MaxInt - 1, math.MaxInt}
	for i := 40; i < 63; i++ {
		l = append(l, 1<<i+1, 1<<i+1<<20, -(1 << i))
	}
	return l
}

// noRuns are spans that are no runs of a size of up to 2^40.
func noRuns(size int) []api.Span {
	l := []api.Span{at(0, 0), at(size, size), at(1, 0), at(size, 0), at(-1, 0), at(-1, 1), at(-1, size), at(0, size+1), at(size-1, size+1), at(size, size+1), at(size+1, size+2), at(size+5, size)}
	for _, far := range []int{math.MinInt, math.MinInt + 1, -(1 << 40), 1<<40 + 1, 1 << 62, math.MaxInt - 1, math.MaxInt} {
		l = append(l, at(far, far), at(0, far), at(far, size), at(far, 0), at(far, ^far), at(size, far))
		if far < math.MaxInt {
			l = append(l, at(far, far+1))
		}
	}
	return l
}

// text is so many bytes, by a number.
func text(n, bytes int) string {
	b := make([]byte, bytes)
	for i := range b {
		b[i] = byte(n*31 + i*7 + 1)
	}
	return string(b)
}

// anyEntries are some, of all lengths, mostly short.
func anyEntries(r *rand.Rand, n int) []string {
	l := make([]string, n)
	for i := range l {
		l[i] = text(r.Intn(1000), []int{0, 1, 2, r.Intn(10), r.Intn(10), r.Intn(60), r.Intn(1001)}[r.Intn(7)])
	}
	return l
}

// laid is a store without entries, and its device.
func laid(t *testing.T, pages int) (*device.Device, *store.Store) {
	t.Helper()
	d, e := device.New(pages)
	if e != api.OK || store.Format(d) != api.OK {
		t.Fatalf("layers 9 and 10: no log: %d", e)
	}
	s, e := store.Open(d)
	if e != api.OK {
		t.Fatalf("layer 10: Open: %d", e)
	}
	return d, s
}

func appends(t *testing.T, s *store.Store, entries []string) {
	t.Helper()
	for l := range slices.Chunk(entries, 32) {
		if _, e := s.Append(l); e != api.OK {
			t.Fatalf("layer 10: Append: %d", e)
		}
	}
}

// logOf is a store with some entries, and its device.
func logOf(t *testing.T, entries ...string) (*device.Device, *store.Store) {
	t.Helper()
	d, s := laid(t, 4096)
	appends(t, s, entries)
	return d, s
}

// found is a store that is found on a device as its pages lie there: that of many entries is there sooner.
func found(t *testing.T, entries []string) *store.Store {
	t.Helper()
	var data []byte
	for _, x := range entries {
		data = append(data, byte(len(x)/256), byte(len(x)%256))
		data = append(data, x...)
	}
	head := binary.BigEndian.AppendUint64(nil, 1)
	head = append(head, "SL"...)
	head = binary.BigEndian.AppendUint32(head, uint32(len(entries)))
	head = binary.BigEndian.AppendUint32(head, uint32(len(data)))
	head = append(head, make([]byte, 230)...)
	head = binary.BigEndian.AppendUint64(head, 1)
	blank := strings.Repeat("\x00", 256)
	pages := []string{blank, string(head)}
	for l := range slices.Chunk(data, 256) {
		pages = append(pages, (string(l) + blank)[:256])
	}
	for len(pages) < 4 {
		pages = append(pages, blank)
	}
	d, e := device.Load(pages)
	if e != api.OK {
		t.Fatalf("layer 9: Load of %d pages: %d", len(pages), e)
	}
	s, e := store.Open(d)
	if e != api.OK || s.Size() != len(entries) {
		t.Fatalf("layer 10: Open: %d", e)
	}
	return s
}

// told is a stream and what it should be: the entries of a run as they were when it was opened, of which some are told.
type told struct {
	*testing.T
	s       *span.Stream
	log     *store.Store
	entries []string // of the run
	first   int      // of the next chunk
	size    int
	budget  int
}

// opened is a stream of a run, which is one of a size that the log has.
func opened(t *testing.T, log *store.Store, size int, x api.Span, budget int) *told {
	t.Helper()
	all, e := log.Entries(x)
	s, f := span.Open(log, size, x, budget)
	if s == nil || e != api.OK || f != api.OK {
		t.Fatalf("P3: Open(%d, %v, %d): %d, %d", size, x, budget, e, f)
	}
	w := &told{t, s, log, all, x.Begin, size, budget}
	w.stands()
	return w
}

// stands holds Size and Left to the words.
func (w *told) stands() {
	w.Helper()
	if n := w.s.Size(); n != w.size {
		w.Fatalf("P3: Size: %d, want %d", n, w.size)
	}
	if n := w.s.Left(); n != len(w.entries) {
		w.Fatalf("P3: Left: %d, want %d", n, len(w.entries))
	}
}

// mayBe tells whether a chunk may have so many entries.
func (w *told) mayBe(n int) bool {
	if n == 1 {
		return true
	}
	bytes := 0
	for _, entry := range w.entries[:n] {
		bytes += len(entry) + 2
	}
	return n <= 4096 && bytes <= w.budget
}

// chunk is what Next should tell.
func (w *told) chunk() ([]string, int, bool, api.Errno) {
	switch {
	case len(w.entries) == 0:
		return nil, 0, false, api.ErrSpanOver
	case w.log.Doubt():
		return nil, 0, false, api.ErrDead
	}
	// With another entry more a chunk never becomes one that may be again, so that half of all numbers can be left out each time.
	low, high := 1, len(w.entries)+1
	for high-low > 1 {
		if middle := (low + high) / 2; w.mayBe(middle) {
			low = middle
		} else {
			high = middle
		}
	}
	return w.entries[:low], w.first, low == len(w.entries), api.OK
}

// next holds Next to the words, and tells the chunk, too.
func (w *told) next() ([]string, api.Errno) {
	w.Helper()
	want, wantFirst, wantOver, wantE := w.chunk()
	l, first, over, e := w.s.Next()
	if !slices.Equal(l, want) || first != wantFirst || over != wantOver || e != wantE {
		w.Fatalf("P4: Next: %d entries, %d, %t, %d, want %d, %d, %t, %d", len(l), first, over, e, len(want), wantFirst, wantOver, wantE)
	}
	w.entries = w.entries[len(want):]
	w.first += len(want)
	w.stands()
	return l, e
}

// goneOver tells all chunks, up to where the stream is over.
func (w *told) goneOver() [][]string {
	w.Helper()
	var all [][]string
	for {
		l, e := w.next()
		if e == api.ErrSpanOver {
			return all
		}
		if e != api.OK {
			w.Fatalf("P4: Next: %d", e)
		}
		all = append(all, l)
	}
}
