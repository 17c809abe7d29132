package span_test

import (
	"math"
	"math/rand"
	"slices"
	"testing"

	"scrivener/api"
	"scrivener/span"
)

// joined is a joiner and what it should be.
type joined struct {
	*testing.T
	j       *span.Joiner
	x       api.Span
	entries []string
}

func joinerOf(t *testing.T, x api.Span) *joined {
	t.Helper()
	j, e := span.NewJoiner(x)
	if j == nil || e != api.OK {
		t.Fatalf("P5: NewJoiner(%v): %d", x, e)
	}
	w := &joined{t, j, x, nil}
	w.is()
	return w
}

func (w *joined) done() bool { return len(w.entries) == w.x.End-w.x.Begin }

func (w *joined) is() {
	w.Helper()
	if done := w.j.Done(); done != w.done() {
		w.Fatalf("P5: Done: %t with %d entries of %v", done, len(w.entries), w.x)
	}
	if l := w.j.Entries(); !slices.Equal(l, w.entries) {
		w.Fatalf("P5: Entries: %d, or others, want %d", len(l), len(w.entries))
	}
}

// refusal is what Take should answer.
func (w *joined) refusal(first int, entries []string) api.Errno {
	next := w.x.Begin + len(w.entries)
	switch {
	case w.done():
		return api.ErrSpanOver
	case len(entries) == 0, first != next, next+len(entries) > w.x.End:
		return api.ErrSpanForm
	case slices.ContainsFunc(entries, func(entry string) bool { return len(entry) > 1000 }):
		return api.ErrSpanForm
	}
	return api.OK
}

// take holds Take to the words, and tells what it answers.
func (w *joined) take(first int, entries ...string) api.Errno {
	w.Helper()
	want := w.refusal(first, entries)
	if e := w.j.Take(first, entries); e != want {
		w.Fatalf("P5: Take of %d entries from %d on, with %d of %v: %d, want %d", len(entries), first, len(w.entries), w.x, e, want)
	}
	if want == api.OK {
		w.entries = slices.Concat(w.entries, entries)
	}
	w.is()
	return want
}

func TestExampleOfJoiners(t *testing.T) {
	j, e := span.NewJoiner(at(0, 2))
	if e != api.OK || j.Done() || len(j.Entries()) != 0 {
		t.Fatalf("P5: NewJoiner: %d", e)
	}
	for i, c := range []struct {
		first   int
		entries []string
		want    api.Errno
		has     []string
	}{
		{1, []string{"b"}, api.ErrSpanForm, nil}, {0, []string{"aa"}, api.OK, []string{"aa"}}, {1, []string{"b", ""}, api.ErrSpanForm, []string{"aa"}},
		{1, []string{"b"}, api.OK, []string{"aa", "b"}}, {2, []string{"x"}, api.ErrSpanOver, []string{"aa", "b"}},
	} {
		if e := j.Take(c.first, c.entries); e != c.want || !slices.Equal(j.Entries(), c.has) || j.Done() != (i > 2) {
			t.Errorf("P5: Take %d: %d, %q, %t", i, e, j.Entries(), j.Done())
		}
	}
}

func TestNoJoiners(t *testing.T) {
	for _, x := range append(noRuns(1<<40), at(0, 0), at(2, 1), at(5, 5), at(-1, 1), at(1<<40, 1<<40), at(1<<40, 1<<40+1), at(0, math.MinInt)) {
		if j, e := span.NewJoiner(x); j != nil || e != api.ErrSpanRange {
			t.Errorf("P5: NewJoiner(%v): a joiner: %t, %d", x, j != nil, e)
		}
	}
	for _, x := range []api.Span{at(0, 1), at(0, 2), at(1, 2), at(0, 1<<40), at(0, 1<<40-1), at(1<<40-1, 1<<40), at(1<<39, 1<<40)} {
		joinerOf(t, x).take(x.Begin, "first")
	}
	// Beside an error there is no joiner: nothing is wanted.
	none, _ := span.NewJoiner(at(1, 1))
	for _, j := range []*span.Joiner{none, {}} {
		for _, first := range []int{0, 1, -1, math.MaxInt} {
			if e := j.Take(first, []string{"x"}); e != api.ErrSpanOver {
				t.Errorf("P5: Take of none: %d", e)
			}
		}
		if !j.Done() || len(j.Entries()) != 0 {
			t.Errorf("P5: none has %q", j.Entries())
		}
	}
}

// Each fault alone, at all places: nothing is taken then.
func TestWrongTakes(t *testing.T) {
	for _, from := range []int{0, 1, 7, 1<<40 - 5} {
		w := joinerOf(t, at(from, from+5))
		for i := range 5 {
			next := from + i
			for _, first := range []int{next - 1, next + 1, 0, -1, from, from + 5, from + 6, -next, math.MinInt, math.MaxInt, next + 1<<40} {
				if first != next && w.take(first, "x") != api.ErrSpanForm {
					t.Errorf("P5: Take from %d on, though %d is next", first, next)
				}
			}
			w.take(next)
			w.take(next, make([]string, 5-i+1)...)
			w.take(next, make([]string, 4097)...)
			w.take(next, text(1, 1001))
			if i < 4 {
				w.take(next, "", text(1, 1001))
				w.take(next, text(1, 1001), "")
			}
			w.take(next, text(1, 5000))
			if len(w.entries) != i {
				t.Fatalf("P5: %d entries, want %d", len(w.entries), i)
			}
			if e := w.take(next, text(i, []int{0, 1000, 1, 999, 2}[i])); e != api.OK {
				t.Errorf("P5: Take: %d", e)
			}
		}
		// Whatever comes now, it has all.
		for _, first := range []int{from, from + 4, from + 5, -1, math.MaxInt} {
			for _, entries := range [][]string{nil, {"x"}, {text(1, 1001)}, make([]string, 9)} {
				if w.take(first, entries...) != api.ErrSpanOver {
					t.Error("P5: Take, though it has all")
				}
			}
		}
	}
}

// Of how many entries a chunk is does not matter.
func TestGreatTakes(t *testing.T) {
	w := joinerOf(t, at(3, 20003))
	w.take(3, make([]string, 4096)...)
	w.take(4099, make([]string, 15904)...)
	if !w.done() {
		w.take(4099, make([]string, 4097)...)
		t.Error("P5: not all were taken")
	}
}

// Anything that is handed to a joiner, in its order or not.
func TestAnyTakes(t *testing.T) {
	r := rand.New(rand.NewSource(6))
	taken, ended := 0, 0
	for range 500 {
		b := []int{0, 0, r.Intn(10), r.Intn(1<<40 - 40)}[r.Intn(4)]
		w := joinerOf(t, at(b, b+1+r.Intn(30)))
		for range 25 {
			first := b + len(w.entries) + (r.Intn(9)-4)/4
			entries := anyEntries(r, r.Intn(6))
			if len(entries) > 0 && r.Intn(12) == 0 {
				entries[r.Intn(len(entries))] = text(1, 1001+r.Intn(3))
			}
			switch w.take(first, entries...) {
			case api.OK:
				taken++
			case api.ErrSpanOver:
				ended++
			}
		}
	}
	if taken < 1000 || ended < 1000 {
		t.Errorf("only one kind was met: %d were taken, %d came behind all", taken, ended)
	}
}
