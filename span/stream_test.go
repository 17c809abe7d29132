package span_test

import (
	"math"
	"math/rand"
	"slices"
	"testing"

	"scrivener/api"
	"scrivener/span"
	"scrivener/store"
)

// notOpened holds Open to an error.
func notOpened(t *testing.T, log *store.Store, size int, x api.Span, budget int, want api.Errno) {
	t.Helper()
	if s, e := span.Open(log, size, x, budget); s != nil || e != want {
		t.Errorf("P3: Open(%d, %v, %d): a stream: %t, %d, want the error %d", size, x, budget, s != nil, e, want)
	}
}

// isOver holds a stream to that it is over.
func isOver(t *testing.T, s *span.Stream) {
	t.Helper()
	if l, first, over, e := s.Next(); len(l) != 0 || first != 0 || over || e != api.ErrSpanOver {
		t.Errorf("P4: Next of one that is over: %q, %d, %t, %d", l, first, over, e)
	}
	if n := s.Left(); n != 0 {
		t.Errorf("P3: Left of one that is over: %d", n)
	}
}

// isNext holds a chunk to what is expected.
func isNext(t *testing.T, s *span.Stream, first int, over bool, entries ...string) {
	t.Helper()
	if l, at, last, e := s.Next(); !slices.Equal(l, entries) || at != first || last != over || e != api.OK {
		t.Errorf("P4: Next: %q, %d, %t, %d, want %q, %d, %t", l, at, last, e, entries, first, over)
	}
}

func TestExampleOfStreams(t *testing.T) {
	_, log := logOf(t, "aa", "b", "", "cccc")
	s, e := span.Open(log, 3, at(0, 3), 7)
	if s.Size() != 3 || s.Left() != 3 || e != api.OK {
		t.Errorf("P3: Open(3, [0, 3), 7): %d, %d, %d", s.Size(), s.Left(), e)
	}
	isNext(t, s, 0, false, "aa", "b")
	if s.Size() != 3 || s.Left() != 1 {
		t.Errorf("P3: behind the first chunk: %d, %d", s.Size(), s.Left())
	}
	isNext(t, s, 2, true, "")
	isOver(t, s)
	if s.Size() != 3 {
		t.Errorf("P3: Size of one that is over: %d", s.Size())
	}
	s, _ = span.Open(log, 4, at(3, 4), 1)
	isNext(t, s, 3, true, "cccc")
	isOver(t, s)
}

// All runs of all sizes of a small log, with all budgets up to where all entries fit.
func TestAllStreams(t *testing.T) {
	_, log := logOf(t, "aa", "", "cccc", "", "", "d", "eeeeeee", "ff", "", "g")
	for size := 1; size <= log.Size(); size++ {
		for b := range size {
			for e := b + 1; e <= size; e++ {
				for budget := 1; budget <= 40; budget++ {
					opened(t, log, size, at(b, e), budget).goneOver()
				}
				if n := len(opened(t, log, size, at(b, e), api.MaxBudget).goneOver()); n != 1 {
					t.Errorf("P4: %d chunks, though all would fit into one", n)
				}
			}
		}
	}
}

// Each entry takes two bytes more than it has: with as many as that they fit, with one less they do not.
func TestBudgets(t *testing.T) {
	for _, length := range []int{0, 1, 2, 3, 255, 256, 999, 1000} {
		_, log := logOf(t, text(1, length), text(2, length), text(3, length), text(4, length))
		for n := 2; n <= 4; n++ {
			for _, c := range []struct{ budget, want int }{{n * (length + 2), n}, {n*(length+2) - 1, n - 1}, {n*(length+2) + 1, n}, {1, 1}} {
				w := opened(t, log, 4, at(0, 4), c.budget)
				if l, _ := w.next(); len(l) != c.want {
					t.Errorf("P4: of entries of %d bytes, with the budget %d: %d, want %d", length, c.budget, len(l), c.want)
				}
				w.goneOver()
			}
		}
	}
}

// An entry that is too long for the budget stands alone, wherever it comes.
func TestTooLongEntries(t *testing.T) {
	_, log := logOf(t, text(1, 1000), "a", "b", text(2, 500), text(3, 10), "", text(4, 9), text(5, 9), text(6, 1000))
	for budget := 1; budget <= 30; budget++ {
		opened(t, log, 9, at(0, 9), budget).goneOver()
	}
	s, _ := span.Open(log, 9, at(0, 9), 11)
	isNext(t, s, 0, false, text(1, 1000))
	isNext(t, s, 1, false, "a", "b")
	isNext(t, s, 3, false, text(2, 500))
	isNext(t, s, 4, false, text(3, 10))
	isNext(t, s, 5, false, "")
	isNext(t, s, 6, false, text(4, 9))
	isNext(t, s, 7, false, text(5, 9))
	isNext(t, s, 8, true, text(6, 1000))
	isOver(t, s)
}

// A chunk has at most 4096 entries, however small they are.
func TestMostEntries(t *testing.T) {
	log := found(t, make([]string, 3*4096+5))
	for _, c := range []struct {
		x    api.Span
		want []int
	}{
		{at(0, 4095), []int{4095}}, {at(0, 4096), []int{4096}}, {at(0, 4097), []int{4096, 1}}, {at(7, 4103), []int{4096}}, {at(7, 4104), []int{4096, 1}},
		{at(1, 8193), []int{4096, 4096}}, {at(0, 3*4096+5), []int{4096, 4096, 4096, 5}},
	} {
		for _, budget := range []int{8192, 8193, 8194, 1 << 20, api.MaxBudget} {
			var lengths []int
			for _, l := range opened(t, log, log.Size(), c.x, budget).goneOver() {
				lengths = append(lengths, len(l))
			}
			if !slices.Equal(lengths, c.want) {
				t.Errorf("P4: %v with the budget %d: chunks of %v, want %v", c.x, budget, lengths, c.want)
			}
		}
	}
	if l, _ := opened(t, log, log.Size(), at(0, 5000), 8191).next(); len(l) != 4095 {
		t.Errorf("P4: %d entries", len(l))
	}
}

// As many entries as a device has room for: with one entry a chunk, and with as many as there may be.
func TestFullLog(t *testing.T) {
	if testing.Short() {
		t.Skip("it has 524032 entries")
	}
	log := found(t, make([]string, 4094*128))
	n := log.Size()
	if got := len(opened(t, log, n, at(0, n), api.MaxBudget).goneOver()); got != (n+4095)/4096 {
		t.Errorf("P4: %d chunks", got)
	}
	if got := len(opened(t, log, n, at(n-3000, n), 1).goneOver()); got != 3000 {
		t.Errorf("P4: %d chunks", got)
	}
	// Long ones, too: more bytes than fit into one chunk of that many entries.
	long := make([]string, 1045)
	for i := range long {
		long[i] = text(i, 1000)
	}
	log = found(t, long)
	if got := len(opened(t, log, 1045, at(0, 1045), api.MaxBudget).goneOver()); got != 1 {
		t.Errorf("P4: %d chunks", got)
	}
	if got := len(opened(t, log, 1045, at(0, 1045), 10*1002).goneOver()); got != 105 {
		t.Errorf("P4: %d chunks", got)
	}
}

func noBudgets() []int {
	return []int{math.MinInt, -api.MaxBudget, -1, 0, api.MaxBudget + 1, 1 << 25, 1<<32 + 1, 1 << 40, math.MaxInt}
}

// A wrong budget is named ahead of all else.
func TestNotOpened(t *testing.T) {
	_, log := logOf(t, "a", "b", "c", "d", "e")
	_, empty := laid(t, 4)
	for _, budget := range noBudgets() {
		for _, size := range append(odd(), 1, 5, 6, 1<<40) {
			for _, x := range append(noRuns(5), at(0, 1), at(0, 5), at(2, 4)) {
				notOpened(t, log, size, x, budget, api.ErrSpanBudget)
				notOpened(t, empty, size, x, budget, api.ErrSpanBudget)
			}
		}
		notOpened(t, nil, 1, at(0, 1), budget, api.ErrSpanBudget)
	}
	for _, budget := range []int{1, 2, 9, api.MaxBudget - 1, api.MaxBudget} {
		for _, size := range append(odd(), 6, 7, 1<<20, 1<<40) {
			for _, x := range append(noRuns(5), at(0, 1), at(0, 5), at(0, size), at(5, 6)) {
				notOpened(t, log, size, x, budget, api.ErrSpanRange)
			}
		}
		for size := 1; size <= 5; size++ {
			for _, x := range noRuns(size) {
				notOpened(t, log, size, x, budget, api.ErrSpanRange)
			}
			notOpened(t, empty, size, at(0, 1), budget, api.ErrSpanRange)
			notOpened(t, nil, size, at(0, 1), budget, api.ErrSpanRange)
			opened(t, log, size, at(0, size), budget).goneOver()
		}
		notOpened(t, empty, 0, at(0, 0), budget, api.ErrSpanRange)
	}
}

// A run beyond the size that is named is refused, though the log has its entries.
func TestSizesOfThePast(t *testing.T) {
	_, log := logOf(t, "a", "b", "c", "d", "e")
	notOpened(t, log, 3, at(0, 4), 9, api.ErrSpanRange)
	notOpened(t, log, 3, at(3, 4), 9, api.ErrSpanRange)
	notOpened(t, log, 3, at(4, 5), 9, api.ErrSpanRange)
	for size := 1; size <= 5; size++ {
		opened(t, log, size, at(size-1, size), 9).goneOver()
	}
}

// What was refused as too far ahead is told when the log has come there.
func TestRefusedUntilItIsThere(t *testing.T) {
	_, log := laid(t, 64)
	for n := 1; n <= 20; n++ {
		notOpened(t, log, n, at(0, n), 9, api.ErrSpanRange)
		notOpened(t, log, n, at(n-1, n), 9, api.ErrSpanRange)
		appends(t, log, []string{text(n, n)})
		opened(t, log, n, at(0, n), 9).goneOver()
		opened(t, log, n, at(n-1, n), 9).goneOver()
	}
}

// Beside an error there is no stream: it is over.
func TestNoStream(t *testing.T) {
	_, log := logOf(t, "a")
	none, _ := span.Open(log, 2, at(0, 1), 9)
	for _, s := range []*span.Stream{none, {}} {
		for range 3 {
			isOver(t, s)
			if n := s.Size(); n != 0 {
				t.Errorf("P3: Size of none: %d", n)
			}
		}
	}
}

// In doubt: nothing is told, and nothing is changed, however often one asks and though the device lives again.
func TestDoubt(t *testing.T) {
	for acts := 1; acts <= 4; acts++ {
		d, log := logOf(t, "a", "bb", "", "cccc")
		fresh := opened(t, log, 4, at(0, 4), 7)
		begun := opened(t, log, 3, at(0, 3), 5)
		begun.next()
		ended := opened(t, log, 4, at(2, 4), 100)
		ended.goneOver()
		d.Arm(acts)
		if _, e := log.Append([]string{"more"}); e != api.ErrDead {
			t.Fatalf("layer 10: Append: %d", e)
		}
		for i := range 4 {
			for _, w := range []*told{fresh, begun} {
				if _, e := w.next(); e != api.ErrDead {
					t.Errorf("P4: in doubt: %d", e)
				}
			}
			if _, e := ended.next(); e != api.ErrSpanOver {
				t.Errorf("P4: over, and in doubt: %d", e)
			}
			if i == 1 {
				d.Crash(nil)
			}
		}
		// What was appended ahead of that is still the log's size: a stream may be opened, but tells nothing.
		if _, e := inDoubt(t, log).next(); e != api.ErrDead {
			t.Errorf("P4: opened in doubt: %d", e)
		}
		notOpened(t, log, 4, at(0, 4), 0, api.ErrSpanBudget)
		notOpened(t, log, 6, at(0, 4), 9, api.ErrSpanRange)
		again, e := store.Open(d)
		if e != api.OK {
			t.Fatalf("layer 10: Open: %d", e)
		}
		opened(t, again, 4, at(0, 4), 7).goneOver()
		if _, e := fresh.next(); e != api.ErrDead {
			t.Errorf("P4: of the store that is in doubt: %d", e)
		}
	}
}

// inDoubt is a stream of a store in doubt, whose entries it does not tell.
func inDoubt(t *testing.T, log *store.Store) *told {
	t.Helper()
	s, e := span.Open(log, 4, at(1, 4), 9)
	if e != api.OK {
		t.Fatalf("P3: Open of a store in doubt: %d", e)
	}
	w := &told{t, s, log, []string{"bb", "", "cccc"}, 1, 4, 9}
	w.stands()
	return w
}

// A device that is dead, but was not asked since, does not matter: a stream asks the store, which has its entries in memory.
func TestDeadDevice(t *testing.T) {
	d, log := logOf(t, "a", "bb", "ccc")
	w := opened(t, log, 3, at(0, 3), 5)
	d.Arm(1)
	if e := d.Flush(); e != api.ErrDead || log.Doubt() {
		t.Fatalf("layer 9: Flush: %d", e)
	}
	w.goneOver()
	opened(t, log, 3, at(0, 3), 5).goneOver()
}

// Whatever is appended meanwhile, a stream tells what there was when it was opened.
func TestWhileTheLogGrows(t *testing.T) {
	r := rand.New(rand.NewSource(5))
	for range 20 {
		_, log := laid(t, 2000)
		appends(t, log, anyEntries(r, 1+r.Intn(20)))
		var streams []*told
		for range 120 {
			switch r.Intn(4) {
			case 0:
				appends(t, log, anyEntries(r, 1+r.Intn(10)))
			case 1:
				size := 1 + r.Intn(log.Size())
				b := r.Intn(size)
				streams = append(streams, opened(t, log, size, at(b, b+1+r.Intn(size-b)), 1+r.Intn([]int{5, 50, 3000}[r.Intn(3)])))
			default:
				if len(streams) > 0 {
					streams[r.Intn(len(streams))].next()
				}
			}
			for _, w := range streams {
				w.stands()
			}
		}
		for _, w := range streams {
			w.goneOver()
			isOver(t, w.s)
		}
	}
}

// Appends that are refused change nothing, either.
func TestRefusedAppends(t *testing.T) {
	_, log := logOf(t, "a", "b", "c")
	w := opened(t, log, 3, at(0, 3), 3)
	for _, l := range [][]string{nil, make([]string, 33), {text(1, 1001)}} {
		if _, e := log.Append(l); e == api.OK {
			t.Fatal("layer 10: Append: not refused")
		}
		w.next()
	}
	w.goneOver()
}
