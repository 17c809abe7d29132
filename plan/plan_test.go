package plan_test

import (
	"math"
	"math/rand"
	"slices"
	"testing"

	"scrivener/api"
	"scrivener/plan"
)

// is holds a plan to what is written out.
func is(t *testing.T, what string, p api.Plan, steps []api.Request, of ...int) {
	t.Helper()
	if !samePlan(p, api.Plan{Steps: steps, Of: of}) {
		t.Errorf("%s: %s of %v, want %s of %v", what, lines(p.Steps), p.Of, lines(steps), of)
	}
}

// refused holds the three calls that make a plan to an error, and to nothing beside it.
func refused(t *testing.T, asks []api.Request, size int, want api.Errno) {
	t.Helper()
	if p, e := plan.Make(asks, size); e != want || len(p.Steps) != 0 || len(p.Of) != 0 {
		t.Errorf("L1: Make(%s, %d): %v, %d, want the error %d", lines(asks), size, p, e, want)
	}
	if a, b, e := plan.Hashes(asks, size); e != want || a != 0 || b != 0 {
		t.Errorf("L2: Hashes(%s, %d): %d, %d, %d, want the error %d", lines(asks), size, a, b, e, want)
	}
	if s, e := plan.Saving(asks, size); e != want || s != 0 {
		t.Errorf("L2: Saving(%s, %d): %v, %d, want the error %d", lines(asks), size, s, e, want)
	}
}

func TestFirstExample(t *testing.T) {
	asks := []api.Request{leafOf(0, 5), batchOf(5, 4), rootOf(3), pairOf(3, 5), pairOf(1, 3)}
	is(t, "example 1", isMake(t, asks, 5), []api.Request{batchOf(5, 0, 4), rootOf(3), pairOf(3, 5), pairOf(1, 3)}, 0, 0, 1, 2, 3)
	asks[3], asks[4] = asks[4], asks[3]
	is(t, "example 1", isMake(t, asks, 5), []api.Request{batchOf(5, 0, 4), rootOf(3), chainOf(1, 3, 5)}, 0, 0, 1, 2, 2)
}

func TestSecondExample(t *testing.T) {
	asks := []api.Request{leafOf(0, 2), leafOf(1, 2)}
	if a, b, e := plan.Hashes(asks, 2); a != 2 || b != 0 || e != api.OK {
		t.Errorf("example 2: %d, %d, %d", a, b, e)
	}
	if s, e := plan.Saving(asks, 2); s != 1 || e != api.OK {
		t.Errorf("example 2: %v, %d", s, e)
	}
}

func TestHowMany(t *testing.T) {
	for _, size := range []int{math.MinInt, -1, 0, 5, 1 << 40, 1<<40 + 1, math.MaxInt} {
		for _, n := range []int{0, 65, 66, 1000} {
			// Too many are told ahead of all that is wrong with them.
			for _, r := range []api.Request{{}, rootOf(0), leafOf(9, 3), batchOf(3), chainOf()} {
				refused(t, slices.Repeat([]api.Request{r}, n), size, api.ErrPlanMany)
			}
		}
		refused(t, nil, size, api.ErrPlanMany)
	}
	for _, n := range []int{1, 2, 63, 64} {
		p := isMake(t, slices.Repeat([]api.Request{rootOf(3)}, n), 3)
		is(t, "L1", p, []api.Request{rootOf(3)}, make([]int, n)...)
	}
}

func TestSizes(t *testing.T) {
	for _, size := range []int{math.MinInt, math.MinInt + 1, -1 << 40, -2, -1, 1<<40 + 1, 1<<40 + 2, 1 << 41, 1 << 62, math.MaxInt} {
		// A wrong size is told ahead of asks that may not be.
		for _, r := range []api.Request{rootOf(0), rootOf(1), rootOf(-1), {}, chainOf(), leafOf(5, 4)} {
			refused(t, []api.Request{r}, size, api.ErrArg)
		}
	}
	for _, size := range []int{0, 1, 2, 5, 1 << 20, 1<<40 - 1, 1 << 40} {
		is(t, "L1", isMake(t, []api.Request{rootOf(0)}, size), []api.Request{rootOf(0)}, 0)
		is(t, "L1", isMake(t, []api.Request{rootOf(size)}, size), []api.Request{rootOf(size)}, 0)
		refused(t, []api.Request{rootOf(size + 1)}, size, api.ErrPlanAsk)
	}
	for _, r := range everyAsk(1)[1:] {
		refused(t, []api.Request{r}, 0, api.ErrPlanAsk)
	}
}

// forms are requests that have not their form, each but for one thing.
func forms() []api.Request {
	var all []api.Request
	for kind := -20; kind <= 40; kind++ {
		if kind < 3 || kind > 7 {
			all = append(all, api.Request{Kind: kind}, api.Request{Kind: kind, Size: 1}, api.Request{Kind: kind, A: 1, Size: 2}, api.Request{Kind: kind, Size: 2, List: []int{1}})
		}
	}
	for _, kind := range []int{math.MinInt, math.MaxInt, 256 + 3, 1<<32 + 3, -3} {
		all = append(all, api.Request{Kind: kind, Size: 1})
	}
	for _, r := range []api.Request{rootOf(2), leafOf(1, 2), pairOf(1, 2), batchOf(2, 0, 1), chainOf(1, 2)} {
		for _, n := range []int{1, -1, 2, math.MinInt, math.MaxInt} {
			with := r
			with.B = n
			all = append(all, with)
			with = r
			with.A = n
			if r.Kind != api.AskInclusion && r.Kind != api.AskConsistency {
				all = append(all, with)
			}
			with = r
			with.Size = n
			if r.Kind == api.AskChain {
				all = append(all, with)
			}
		}
		for _, list := range [][]int{{0}, {1}, {1, 2}, {-1}} {
			with := r
			with.List = list
			if r.Kind < api.AskBatch {
				all = append(all, with)
			}
		}
		with := r
		with.Entries = []string{""}
		all = append(all, with)
		with = r
		with.Asks = []api.Request{{}}
		all = append(all, with)
		with.Asks = []api.Request{r}
		all = append(all, with)
	}
	return all
}

func TestForms(t *testing.T) {
	for _, r := range forms() {
		if hasForm(r) {
			t.Fatalf("%+v has its form", r)
		}
		for _, size := range []int{0, 2, 9, 1 << 40} {
			refused(t, []api.Request{r}, size, api.ErrPlanAsk)
		}
		refused(t, []api.Request{rootOf(1), r}, 9, api.ErrPlanAsk)
		refused(t, []api.Request{r, rootOf(1)}, 9, api.ErrPlanAsk)
		refused(t, append(slices.Repeat([]api.Request{rootOf(1)}, 63), r), 9, api.ErrPlanAsk)
	}
	// Lists without elements are none, whether they are nil or not.
	for _, r := range []api.Request{rootOf(2), leafOf(1, 2), pairOf(1, 2)} {
		r.List, r.Entries, r.Asks = []int{}, []string{}, []api.Request{}
		isMake(t, []api.Request{r}, 2)
	}
	for _, r := range []api.Request{batchOf(2, 1), chainOf(1)} {
		r.Entries, r.Asks = []string{}, []api.Request{}
		isMake(t, []api.Request{r}, 2)
	}
}

// wrongOnes may not be, of a log of 9, though they have their form.
func wrongOnes() []api.Request {
	all := []api.Request{}
	for _, n := range []int{math.MinInt, -10, -1, 10, 11, 1 << 40, 1<<40 + 1, math.MaxInt} {
		all = append(all, rootOf(n), leafOf(0, n), leafOf(n, n), leafOf(n-1, n), pairOf(1, n), pairOf(n, n), batchOf(n, 0), batchOf(n, n-1), batchOf(9, n), batchOf(9, 0, n), chainOf(n), chainOf(1, n), chainOf(n, 5))
	}
	for _, n := range []int{1, 2, 3, 8, 9} {
		all = append(all, leafOf(-1, n), leafOf(n, n), leafOf(n+1, n), leafOf(math.MinInt, n), leafOf(math.MaxInt, n), pairOf(0, n), pairOf(-1, n), pairOf(n+1, n), pairOf(math.MinInt, n), pairOf(math.MaxInt, n))
		all = append(all, batchOf(n), batchOf(n, n), batchOf(n, -1), batchOf(n, 0, 0), batchOf(n, -1, 0), batchOf(n, 0, n), chainOf(n, n), chainOf(0, n), chainOf(n, n+1, 10), chainOf(n, n-1))
	}
	return append(all, leafOf(0, 0), leafOf(-1, 0), pairOf(0, 0), pairOf(1, 0), batchOf(0), batchOf(0, 0), chainOf(), chainOf(0), chainOf(-1, 1), batchOf(9, 1, 0), batchOf(9, 0, 2, 1), chainOf(3, 2), chainOf(1, 3, 2), chainOf(1, 2, 2))
}

func TestAsksThatMayNotBe(t *testing.T) {
	for _, r := range wrongOnes() {
		if !hasForm(r) || may(r, 9) {
			t.Fatalf("%+v is not a wrong one", r)
		}
		refused(t, []api.Request{r}, 9, api.ErrPlanAsk)
		refused(t, []api.Request{rootOf(1), r}, 9, api.ErrPlanAsk)
		refused(t, []api.Request{r, rootOf(1)}, 9, api.ErrPlanAsk)
	}
	// As many as may be, and one more.
	for _, c := range []struct {
		r    api.Request
		want api.Errno
	}{
		{batchOf(300, from(0, 1, 256)...), api.OK}, {batchOf(300, from(0, 1, 257)...), api.ErrPlanAsk}, {batchOf(300, from(44, 1, 256)...), api.OK}, {batchOf(300, from(45, 1, 256)...), api.ErrPlanAsk},
		{chainOf(from(1, 1, 64)...), api.OK}, {chainOf(from(1, 1, 65)...), api.ErrPlanAsk}, {chainOf(from(237, 1, 64)...), api.OK}, {chainOf(from(238, 1, 64)...), api.ErrPlanAsk}, {chainOf(from(0, 1, 64)...), api.ErrPlanAsk},
		{batchOf(300, make([]int, 100000)...), api.ErrPlanAsk}, {chainOf(from(1, 1, 100000)...), api.ErrPlanAsk},
	} {
		if c.want != api.OK {
			refused(t, []api.Request{c.r}, 300, c.want)
			continue
		}
		is(t, "L1", isMake(t, []api.Request{c.r}, 300), []api.Request{c.r}, 0)
	}
}

// Each ask of a small log, alone, of logs that have it and of such that have not.
func TestEachAlone(t *testing.T) {
	for _, r := range everyAsk(6) {
		for size := range 8 {
			p := isMake(t, []api.Request{r}, size)
			if len(p.Steps) == 1 && r.Kind != api.AskBatch && !sameRequest(p.Steps[0], r) {
				t.Errorf("L1: %+v alone is the step %+v", r, p.Steps[0])
			}
		}
	}
	is(t, "L1", isMake(t, []api.Request{batchOf(5, 3)}, 5), []api.Request{leafOf(3, 5)}, 0)
}

// All groups of up to three asks of a log of three.
func TestAllSmallGroups(t *testing.T) {
	all := everyAsk(3)
	for _, a := range all {
		for _, b := range all {
			isMake(t, []api.Request{a, b}, 3)
			if testing.Short() {
				continue
			}
			for _, c := range all {
				isMake(t, []api.Request{a, b, c}, 3)
			}
		}
	}
}

// All orders of up to five pairs and chains, some of them more than once.
func TestAllPairs(t *testing.T) {
	some := []api.Request{pairOf(1, 2), pairOf(1, 3), pairOf(2, 3), pairOf(2, 4), pairOf(3, 4), pairOf(3, 3), chainOf(1, 2, 3), chainOf(2, 3), chainOf(1, 3, 4)}
	var walk func(asks []api.Request)
	walk = func(asks []api.Request) {
		if len(asks) > 0 {
			isMake(t, asks, 4)
		}
		if len(asks) == 5 || testing.Short() && len(asks) == 3 {
			return
		}
		for _, r := range some {
			walk(append(slices.Clone(asks), r))
		}
	}
	walk(nil)
}

func TestBatches(t *testing.T) {
	// Those of one size are one, wherever they stand; those of others are others.
	asks := []api.Request{leafOf(3, 9), leafOf(3, 8), batchOf(9, 1, 3, 8), rootOf(9), leafOf(0, 9), leafOf(3, 8), batchOf(8, 3)}
	is(t, "L1", isMake(t, asks, 9), []api.Request{batchOf(9, 0, 1, 3, 8), leafOf(3, 8), rootOf(9)}, 0, 1, 0, 2, 0, 1, 1)
	first := from(0, 1, 256)
	full := batchOf(600, first...)
	// What a full one has already goes to it.
	is(t, "L1", isMake(t, []api.Request{full, leafOf(0, 600), leafOf(255, 600), batchOf(600, 7, 9), full}, 600), []api.Request{full}, 0, 0, 0, 0, 0)
	// The 256 may come one by one, and together with what is there already.
	is(t, "L1", isMake(t, []api.Request{batchOf(600, first[:200]...), batchOf(600, first[100:]...)}, 600), []api.Request{full}, 0, 0)
	is(t, "L1", isMake(t, []api.Request{leafOf(255, 600), batchOf(600, first[:255]...)}, 600), []api.Request{full}, 0, 0)
	// One more makes another one; and from then on all go to that, though the first one has them.
	is(t, "L1", isMake(t, []api.Request{full, leafOf(256, 600)}, 600), []api.Request{full, leafOf(256, 600)}, 0, 1)
	is(t, "L1", isMake(t, []api.Request{full, leafOf(599, 600), leafOf(0, 600)}, 600), []api.Request{full, batchOf(600, 0, 599)}, 0, 1, 1)
	is(t, "L1", isMake(t, []api.Request{batchOf(600, first[:255]...), batchOf(600, 300, 301), leafOf(255, 600)}, 600), []api.Request{batchOf(600, first[:255]...), batchOf(600, 255, 300, 301)}, 0, 1, 1)
	// A further one of another size does not come between.
	is(t, "L1", isMake(t, []api.Request{batchOf(600, 5), batchOf(599, first...), batchOf(600, 4)}, 600), []api.Request{batchOf(600, 4, 5), batchOf(599, first...)}, 0, 1, 0)
	// The same, made once more, since another one came between.
	other := batchOf(600, from(1, 1, 256)...)
	is(t, "L1", isMake(t, []api.Request{full, other, full, other}, 600), []api.Request{full, other, full, other}, 0, 1, 2, 3)
	is(t, "L1", isMake(t, []api.Request{full, other, full, leafOf(0, 600), leafOf(256, 600)}, 600), []api.Request{full, other, full, leafOf(256, 600)}, 0, 1, 2, 2, 3)
}

func TestChains(t *testing.T) {
	// The same heads are one step, others are others, though they be a part.
	asks := []api.Request{chainOf(1, 2, 3), chainOf(1, 2), chainOf(1, 2, 3), chainOf(3), chainOf(3), chainOf(1, 3), chainOf(1, 2)}
	is(t, "L1", isMake(t, asks, 3), []api.Request{chainOf(1, 2, 3), chainOf(1, 2), chainOf(3), chainOf(1, 3)}, 0, 1, 0, 2, 2, 3, 1)
	// A pair goes where the first chain that has it goes, also if that is asked for later; where the chain's step is made then.
	asks = []api.Request{pairOf(2, 3), rootOf(1), chainOf(2, 3, 4), chainOf(1, 2, 3), pairOf(2, 3), pairOf(1, 2), pairOf(3, 4)}
	is(t, "L1", isMake(t, asks, 4), []api.Request{chainOf(2, 3, 4), rootOf(1), chainOf(1, 2, 3)}, 0, 1, 0, 2, 0, 2, 0)
	asks = []api.Request{pairOf(1, 2), pairOf(2, 3), chainOf(2, 3), chainOf(1, 2)}
	is(t, "L1", isMake(t, asks, 4), []api.Request{chainOf(1, 2), chainOf(2, 3)}, 0, 1, 1, 0)
	// Heads that are no neighbours there are none.
	asks = []api.Request{chainOf(1, 2, 3), pairOf(1, 3), pairOf(1, 2), pairOf(3, 4)}
	is(t, "L1", isMake(t, asks, 4), []api.Request{chainOf(1, 2, 3), chainOf(1, 3, 4)}, 0, 1, 0, 1)
	// No row goes on with a pair that a chain has.
	asks = []api.Request{pairOf(1, 2), pairOf(2, 3), pairOf(3, 4), chainOf(2, 3)}
	is(t, "L1", isMake(t, asks, 4), []api.Request{pairOf(1, 2), chainOf(2, 3), pairOf(3, 4)}, 0, 1, 2, 1)
	// Of one size with itself.
	asks = []api.Request{pairOf(3, 3), pairOf(1, 3), pairOf(3, 4), pairOf(3, 3), chainOf(3), pairOf(4, 4)}
	is(t, "L1", isMake(t, asks, 4), []api.Request{pairOf(3, 3), chainOf(1, 3, 4), chainOf(3), pairOf(4, 4)}, 0, 1, 1, 0, 2, 3)
}

func TestRows(t *testing.T) {
	// The first row that has them as neighbours; else the first one that ends there.
	asks := []api.Request{pairOf(1, 3), pairOf(2, 3), pairOf(3, 4), pairOf(3, 4), pairOf(3, 5), pairOf(2, 3), pairOf(1, 3)}
	is(t, "L1", isMake(t, asks, 9), []api.Request{chainOf(1, 3, 4), chainOf(2, 3, 5)}, 0, 1, 0, 0, 1, 1, 0)
	// That is no other row's beginning: none goes on ahead of its first head, nor from its middle.
	asks = []api.Request{pairOf(3, 5), pairOf(5, 7), pairOf(2, 3), pairOf(5, 6), pairOf(7, 8)}
	is(t, "L1", isMake(t, asks, 9), []api.Request{chainOf(3, 5, 7, 8), pairOf(2, 3), pairOf(5, 6)}, 0, 0, 1, 2, 0)
	// Two rows that would meet stay two.
	asks = []api.Request{pairOf(3, 5), pairOf(1, 2), pairOf(2, 3)}
	is(t, "L1", isMake(t, asks, 9), []api.Request{pairOf(3, 5), chainOf(1, 2, 3)}, 0, 1, 1)
}

func TestGreatestRow(t *testing.T) {
	heads := from(1, 1, 66)
	var asks []api.Request
	for i := range 64 {
		asks = append(asks, pairOf(heads[i], heads[i+1]))
	}
	of := make([]int, 64)
	for n := 60; n < 64; n++ {
		is(t, "L1", isMake(t, asks[:n], 99), []api.Request{chainOf(heads[:n+1]...)}, of[:n]...)
	}
	of[63] = 1
	is(t, "L1", isMake(t, asks, 99), []api.Request{chainOf(heads[:64]...), pairOf(64, 65)}, of...)
	// What ends where the full one does goes to the next row that ends there.
	late := slices.Concat([]api.Request{pairOf(2, 64)}, asks[:62], asks[62:63])
	of = append([]int{0}, slices.Repeat([]int{1}, 63)...)
	is(t, "L1", isMake(t, late, 99), []api.Request{pairOf(2, 64), chainOf(heads[:64]...)}, of...)
	late = slices.Concat(asks[1:63], []api.Request{pairOf(3, 64), pairOf(64, 65)})
	is(t, "L1", isMake(t, late, 99), []api.Request{chainOf(heads[1:65]...), pairOf(3, 64)}, append(make([]int, 62), 1, 0)...)
	full := asks[:63]
	is(t, "L1", isMake(t, append(slices.Clone(full[:62]), pairOf(63, 70), pairOf(70, 71)), 99), []api.Request{chainOf(append(slices.Clone(heads[:63]), 70)...), pairOf(70, 71)}, append(make([]int, 63), 1)...)
}

func TestAnyGroups(t *testing.T) {
	r := rand.New(rand.NewSource(1))
	for range 3000 {
		size := 1 + r.Intn(60)
		asks := group(r, size, 1+r.Intn(20))
		isMake(t, asks, size)
		isMake(t, asks, size-1)
	}
	for range 200 {
		isMake(t, group(r, 1+r.Intn(300), 64), 300)
	}
}

// Where nothing is kept, sizes go up to 2^40.
func TestGreatSizes(t *testing.T) {
	r := rand.New(rand.NewSource(2))
	for range 200 {
		isMake(t, group(r, 1<<(1+r.Intn(40)), 1+r.Intn(20)), 1<<40)
	}
	for _, c := range []struct {
		r    api.Request
		want int
	}{
		{rootOf(1 << 40), 1}, {leafOf(0, 1<<40), 40}, {leafOf(1<<40-1, 1<<40), 40}, {pairOf(1, 1<<40), 40}, {pairOf(1<<40-1, 1<<40), 41}, {pairOf(1<<40, 1<<40), 0}, {pairOf(1<<39, 1<<40), 1},
		{batchOf(1<<40, 0, 1<<40-1), 78}, {batchOf(1<<40, 7), 40}, {chainOf(1, 1<<40-1, 1<<40), 81}, {chainOf(1 << 40), 0},
	} {
		isMake(t, []api.Request{c.r}, 1<<40)
		refused(t, []api.Request{c.r}, 1<<40-1, api.ErrPlanAsk)
		if a, b, e := plan.Hashes([]api.Request{c.r}, 1<<40); a != c.want || b != c.want || e != api.OK {
			t.Errorf("L2: Hashes(%v): %d, %d, %d, want %d", c.r, a, b, e, c.want)
		}
	}
	// The most that may be asked.
	var most []api.Request
	for i := range 64 {
		most = append(most, batchOf(1<<40, from(i, 1<<32, 256)...))
	}
	is(t, "L1", isMake(t, most, 1<<40), most, from(0, 1, 64)...)
}

func TestSaving(t *testing.T) {
	for _, c := range []struct {
		asks []api.Request
		want float32
	}{
		{[]api.Request{leafOf(0, 1)}, 0}, {[]api.Request{chainOf(3)}, 0}, {[]api.Request{pairOf(3, 3), pairOf(3, 3)}, 0}, {[]api.Request{batchOf(2, 0, 1)}, 0},
		{[]api.Request{rootOf(2)}, 0}, {[]api.Request{rootOf(2), rootOf(1)}, 0}, {[]api.Request{rootOf(2), rootOf(2)}, 0.5}, {[]api.Request{rootOf(2), rootOf(2), rootOf(1)}, float32(1) / float32(3)},
		{[]api.Request{leafOf(0, 2), leafOf(1, 2)}, 1}, {[]api.Request{leafOf(0, 5), leafOf(4, 5)}, 0.5}, {[]api.Request{pairOf(3, 5), pairOf(5, 6)}, float32(2) / float32(7)},
		{[]api.Request{chainOf(3, 5), pairOf(3, 5)}, 0.5}, {slices.Repeat([]api.Request{rootOf(2)}, 64), float32(63) / float32(64)}, {slices.Repeat([]api.Request{leafOf(0, 2)}, 49), float32(48) / float32(49)},
	} {
		isMake(t, c.asks, 6)
		if s, e := plan.Saving(c.asks, 6); s != c.want || e != api.OK {
			t.Errorf("L2: Saving(%s): %v, %d, want %v", lines(c.asks), s, e, c.want)
		}
	}
}
