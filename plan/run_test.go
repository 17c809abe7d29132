package plan_test

import (
	"math"
	"math/rand"
	"slices"
	"strings"
	"sync"
	"testing"

	"scrivener/api"
	"scrivener/cache"
	"scrivener/plan"
	"scrivener/tile"
)

// budgets are such that nothing, few things, or all things stay.
var budgets = []int{0, 1, 40, 100, 300, 1000, 5000, api.MaxBudget}

func TestThirdExample(t *testing.T) {
	s := serve(t, 3, 1000, some(5, "leaf"))
	l, e := plan.Run(s.x, s.c, []api.Request{rootOf(9)})
	if e != api.OK || len(l) != 1 || !sameReply(l[0], api.Reply{Status: api.NotThere}) || s.c.Tally() != (api.Tally{}) {
		t.Errorf("example 3: %x, %d, %+v", l, e, s.c.Tally())
	}
}

// What is told, written out.
func TestFiveLeaves(t *testing.T) {
	l := some(5, "leaf")
	ab, cd := node(l[0], l[1]), node(l[2], l[3])
	for _, budget := range budgets {
		x, c := grown(t, 2, l), empty(t, budget)
		asks := []api.Request{leafOf(0, 5), batchOf(5, 4), rootOf(3), pairOf(3, 5), pairOf(1, 3), rootOf(0), rootOf(6), batchOf(5, 0, 4), leafOf(4, 5), batchOf(4, 2), chainOf(3, 5), pairOf(4, 4), leafOf(0, 1)}
		want := []api.Reply{
			{Hashes: []string{l[1], cd, l[4]}}, {Hashes: []string{node(ab, cd)}}, {Root: node(ab, l[2])}, {Hashes: []string{l[2], l[3], ab, l[4]}}, {Hashes: []string{l[1], l[2]}},
			{Root: hashOf("")}, {Status: api.NotThere}, {Hashes: []string{l[1], cd}}, {Hashes: []string{node(ab, cd)}},
			// By their places: that of the leaf 2 stands from below in its path.
			{Hashes: []string{ab, l[3]}}, {Hashes: []string{l[2], l[3], ab, l[4]}}, {}, {},
		}
		for range 2 {
			replies, e := plan.Run(x, c, asks)
			if e != api.OK || !slices.EqualFunc(replies, want, sameReply) {
				t.Errorf("L3: %x, %d, want %x", replies, e, want)
			}
		}
	}
}

func TestKeys(t *testing.T) {
	l := some(300, "leaf")
	for _, c := range []struct {
		r    api.Request
		key  string
		size int // how many hashes
	}{
		{rootOf(0), "\x03\x00", 1}, {rootOf(300), "\x03\xac\x02", 1}, {leafOf(0, 5), "\x04\x00\x05", 3}, {leafOf(299, 300), "\x04\xab\x02\xac\x02", 5}, {leafOf(0, 1), "\x04\x00\x01", 0},
		{pairOf(3, 5), "\x05\x03\x05", 4}, {pairOf(5, 5), "\x05\x05\x05", 0}, {batchOf(5, 0, 4), "\x06\x05\x02\x00\x03", 2}, {batchOf(300, 3, 4, 200), "\x06\xac\x02\x03\x03\x00\xc3\x01", 16},
		// Of one index it is that of the path.
		{batchOf(5, 4), "\x04\x04\x05", 1}, {chainOf(4), "\x07\x01\x04", 0}, {chainOf(1, 2, 130), "\x07\x03\x01\x00\x7f", 8}, {chainOf(3, 5), "\x07\x02\x03\x01", 4},
	} {
		s := serve(t, 4, 1000, l)
		s.run(c.r)
		if k := s.c.Keys(); !slices.Equal(k, []string{c.key}) {
			t.Errorf("L4: %v stands under %q, want %q", c.r, k, c.key)
		}
		if x := s.c.Tally(); x != (api.Tally{Count: 1, Bytes: len(c.key) + 32*c.size, Missed: 1}) {
			t.Errorf("L4: %v: %+v", c.r, x)
		}
		s.run(c.r)
		if x := s.c.Tally(); x.Found != 1 || x.Missed != 1 {
			t.Errorf("L4: %v, asked again: %+v", c.r, x)
		}
		s.values()
	}
}

func TestRunHowMany(t *testing.T) {
	s := serve(t, 2, 1000, some(9, "leaf"))
	for _, n := range []int{0, 65, 66, 500} {
		for _, r := range []api.Request{rootOf(3), rootOf(99), {}, {Kind: 3, A: 1}} {
			replies, e := plan.Run(s.x, s.c, slices.Repeat([]api.Request{r}, n))
			if e != api.ErrPlanMany || len(replies) != 0 || s.c.Tally() != (api.Tally{}) {
				t.Errorf("L3: %d of %v: %x, %d, %+v", n, r, replies, e, s.c.Tally())
			}
		}
	}
	for _, n := range []int{1, 63, 64} {
		s.run(slices.Repeat([]api.Request{leafOf(3, 9)}, n)...)
		s.run(slices.Repeat([]api.Request{leafOf(9, 9)}, n)...)
	}
}

// One that has not its form is refused with all others, and nothing is changed; one that may not be is answered.
func TestRunForms(t *testing.T) {
	s := serve(t, 2, 1000, some(9, "leaf"))
	for _, r := range forms() {
		for _, asks := range [][]api.Request{{r}, {rootOf(3), r}, {r, rootOf(3)}, {rootOf(10), r}, append(slices.Repeat([]api.Request{leafOf(3, 9)}, 63), r)} {
			replies, e := plan.Run(s.x, s.c, asks)
			if e != api.ErrPlanAsk || len(replies) != 0 || s.c.Tally() != (api.Tally{}) {
				t.Errorf("L3: %s: %x, %d, %+v", lines(asks), replies, e, s.c.Tally())
			}
		}
	}
}

func TestRunOfWhatMayNotBe(t *testing.T) {
	s := serve(t, 2, 1000, some(9, "leaf"))
	for _, r := range wrongOnes() {
		replies := s.run(r)
		if len(replies) != 1 || !sameReply(replies[0], api.Reply{Status: api.NotThere}) || s.c.Tally() != (api.Tally{}) {
			t.Errorf("L3, L4: %v: %x, %+v", r, replies, s.c.Tally())
		}
	}
	s.run(wrongOnes()[:64]...)
	if s.c.Tally() != (api.Tally{}) {
		t.Errorf("L4: of wrong ones alone: %+v", s.c.Tally())
	}
	// Beside others, in all places; a chain that is not there draws no pair to it.
	for _, r := range wrongOnes() {
		s.run(r, leafOf(3, 9), pairOf(3, 5))
		s.run(leafOf(3, 9), r, batchOf(9, 2), r)
		s.run(pairOf(3, 5), pairOf(5, 9), r)
	}
	s = serve(t, 2, 1000, some(9, "leaf"))
	s.run(pairOf(3, 5), chainOf(3, 5, 10), pairOf(5, 7))
	if k := s.c.Keys(); !slices.Equal(k, []string{"\x07\x03\x03\x01\x01"}) {
		t.Errorf("L4: %q", k)
	}
	s.run(batchOf(10, 1), batchOf(9, 8, 9), leafOf(8, 9))
	s.values()
}

// All groups of up to three asks of a log of three, each with an empty cache and with one that has been used.
func TestRunAllSmallGroups(t *testing.T) {
	all := append(everyAsk(3), rootOf(5), chainOf(2, 4))
	l := some(4, "leaf")
	x, m := grown(t, 1, l), modelOf(l)
	used := &served{T: t, x: x, m: m, c: empty(t, 500), want: empty(t, 500)}
	for _, a := range all {
		for _, b := range all {
			for _, c := range all {
				used.run(a, b, c)
				if testing.Short() {
					break
				}
				fresh := &served{T: t, x: x, m: m, c: empty(t, 1000), want: empty(t, 1000)}
				fresh.run(a, b, c)
				fresh.run(c, a, b)
			}
		}
	}
	used.values()
}

func TestRunAnyGroups(t *testing.T) {
	r := rand.New(rand.NewSource(3))
	l := some(80, "leaf")
	for height := 1; height <= 8; height++ {
		for _, budget := range budgets {
			s := serve(t, height, budget, l[:30])
			for n := 31; n <= len(l); n++ {
				asks := group(r, n+r.Intn(3), 1+r.Intn(12))
				s.run(asks...)
				if r.Intn(3) == 0 {
					s.run(asks...)
				}
				s.grow(l[:n])
			}
			s.values()
		}
	}
}

func TestRunGreatGroups(t *testing.T) {
	r := rand.New(rand.NewSource(4))
	l := some(700, "leaf")
	s := serve(t, 3, 1<<16, l)
	for range 20 {
		s.run(group(r, 700, 64)...)
	}
	// Batches that are full, in part the same.
	for range 10 {
		var asks []api.Request
		for range 30 {
			asks = append(asks, batchOf(600+r.Intn(2), someOf(r, r.Intn(300), 300, 1+r.Intn(300))...))
			if n := len(asks[len(asks)-1].List); n > 256 {
				asks[len(asks)-1].List = asks[len(asks)-1].List[:256]
			}
			asks = append(asks, leafOf(r.Intn(600), 600))
		}
		s.run(asks...)
		s.run(asks...)
	}
	// Rows that are full.
	var pairs []api.Request
	for i := range 64 {
		pairs = append(pairs, pairOf(10*i+1, 10*i+11))
	}
	s.run(pairs...)
	s.run(pairs...)
	slices.Reverse(pairs)
	s.run(pairs...)
	s.run(append(slices.Clone(pairs[:60]), chainOf(1, 11, 21), chainOf(from(1, 10, 64)...), chainOf(from(101, 10, 30)...))...)
	s.values()
}

// One step after the other: what the first ones have put there may be out again when the last ones come.
func TestStepsInTheirOrder(t *testing.T) {
	l := some(40, "leaf")
	asks := []api.Request{leafOf(0, 40), pairOf(3, 9), rootOf(40), leafOf(7, 33), chainOf(1, 5, 9), rootOf(40), batchOf(33, 1, 2), pairOf(9, 20), rootOf(7)}
	for budget := range 800 {
		s := serve(t, 3, budget, l)
		for range 3 {
			s.run(asks...)
		}
		s.values()
	}
}

// Steps that are the same twice: the second one finds what the first one has put there.
func TestSameStepTwice(t *testing.T) {
	full, other := batchOf(600, from(0, 1, 256)...), batchOf(600, from(1, 1, 256)...)
	s := serve(t, 5, api.MaxBudget, some(600, "leaf"))
	s.run(full, other, full, other)
	if x := s.c.Tally(); x.Found != 2 || x.Missed != 2 {
		t.Errorf("L4: %+v", x)
	}
	s = serve(t, 5, 0, some(600, "leaf"))
	s.run(full, other, full, other)
	if x := s.c.Tally(); x.Found != 0 || x.Missed != 4 {
		t.Errorf("L4: %+v", x)
	}
}

// Other things in the cache stay as they are; pinned ones may leave no room.
func TestOthersInTheCache(t *testing.T) {
	s := serve(t, 2, 200, some(20, "leaf"))
	for _, c := range []*cache.Cache{s.c, s.want} {
		c.Put("other", strings.Repeat("x", 150))
		c.Pin("other")
	}
	for range 2 {
		s.run(leafOf(3, 20), rootOf(9), pairOf(3, 9))
	}
	if value, _ := s.c.Get("other"); len(value) != 150 {
		t.Errorf("layer 15: the pinned one is gone")
	}
}

// Of what others put under a step's key nothing is promised, but that it ends, that nothing panics and that no more calls are made.
func TestWhatOthersPut(t *testing.T) {
	l := some(40, "leaf")
	groups := [][]api.Request{
		{rootOf(9)}, {leafOf(3, 40)}, {batchOf(40, 3)}, {batchOf(40, 3, 9)}, {leafOf(3, 40), leafOf(9, 40)}, {batchOf(40, 1, 3), leafOf(9, 40)}, {pairOf(3, 9)}, {pairOf(3, 3)}, {chainOf(3, 9, 20)}, {pairOf(3, 9), pairOf(9, 20)}, {chainOf(3)}, {leafOf(0, 1), batchOf(1, 0)},
	}
	for _, asks := range groups {
		steps := slowSteps(asks).Steps
		right := modelOf(l).hashes(aloneIn(steps[0]))
		whole := strings.Join(right, "")
		for _, value := range []string{"", "x", strings.Repeat("x", 31), strings.Repeat("x", 32), strings.Repeat("x", 33), strings.Repeat("x", 64), strings.Repeat("x", 1000), strings.Repeat("x", 3200), whole + "x", whole + whole, strings.Repeat("x", len(whole)), whole[:len(whole)/2]} {
			x, c := grown(t, 3, l), empty(t, 100000)
			c.Put(slowKey(steps[0]), value)
			replies, e := plan.Run(x, c, asks)
			if e != api.OK || len(replies) != len(asks) {
				t.Errorf("R1: %s: %d replies, %d", lines(asks), len(replies), e)
			}
			if is, _ := c.Get(slowKey(steps[0])); is != value {
				t.Errorf("L4: %s: a value that was found was put again", lines(asks))
			}
			if y := c.Tally(); y.Count != 1 || y.Found != 2 || y.Missed != 0 {
				t.Errorf("L4: %s: %+v", lines(asks), y)
			}
			for i, r := range replies {
				if want := len(aloneIn(asks[i])); asks[i].Kind != 3 && len(r.Hashes) != want {
					t.Errorf("%s: %d hashes of %d", lines(asks), len(r.Hashes), want)
				}
			}
		}
	}
}

// Where layer 7 made no tree there are no leaves; where layer 15 made no cache nothing is kept.
func TestNoTreeNoCache(t *testing.T) {
	none, _ := tile.New(0)
	bad, _ := cache.New(-1)
	l := some(9, "leaf")
	for _, c := range []*cache.Cache{nil, bad, {}, empty(t, 0), empty(t, 1000)} {
		for range 2 {
			for _, x := range []*tile.Tree{nil, none, none.Clone(), grown(t, 1, nil)} {
				replies, e := plan.Run(x, c, []api.Request{rootOf(0), rootOf(1), leafOf(0, 1), pairOf(1, 1), batchOf(1, 0), chainOf(1), leafOf(0, 0), rootOf(-1)})
				if e != api.OK || len(replies) != 8 || replies[0].Root != hashOf("") {
					t.Fatalf("L3: of no leaves: %x, %d", replies, e)
				}
				for _, r := range replies[1:] {
					if !sameReply(r, api.Reply{Status: api.NotThere}) {
						t.Errorf("L3: of no leaves: %x", r)
					}
				}
			}
			asks := everyAsk(4)[:60]
			replies, e := plan.Run(grown(t, 2, l), c, asks)
			want, _ := slowRun(modelOf(l), empty(t, 0), asks)
			if e != api.OK || !slices.EqualFunc(replies, want, sameReply) {
				t.Errorf("L3, L5: without a cache: %x, %d", replies, e)
			}
		}
	}
	if replies, e := plan.Run(nil, nil, nil); e != api.ErrPlanMany || len(replies) != 0 {
		t.Errorf("L3: of nothing: %v, %d", replies, e)
	}
	if replies, e := plan.Run(nil, nil, []api.Request{{Kind: math.MinInt}}); e != api.ErrPlanAsk || len(replies) != 0 {
		t.Errorf("L3: of nothing: %v, %d", replies, e)
	}
}

// full is a tree of as many leaves as there may be, with its model.
var full = sync.OnceValue(func() (all struct {
	tree  *tile.Tree
	model model
}) {
	l := some(api.MaxLeaves, "leaf")
	all.tree, _ = tile.New(8)
	for _, leaf := range l {
		all.tree.Add(leaf)
	}
	all.model = modelOf(l)
	return all
})

func TestFullTree(t *testing.T) {
	if testing.Short() {
		t.Skip("it has 1048576 leaves")
	}
	r := rand.New(rand.NewSource(5))
	s := &served{T: t, x: full().tree, m: full().model, c: empty(t, 1<<20), want: empty(t, 1<<20)}
	const n = api.MaxLeaves
	s.run(rootOf(n), rootOf(n+1), leafOf(0, n), leafOf(n-1, n), leafOf(n, n), pairOf(n-1, n), pairOf(1, n-1), pairOf(n, n), pairOf(n, n+1), chainOf(1, n), chainOf(n-2, n-1, n), chainOf(n-1, n+1), batchOf(n, 0, 1, n-1), batchOf(n, n-1), batchOf(n-1, 5, 7))
	for range 10 {
		asks := group(r, n, 64)
		s.run(asks...)
		s.run(asks...)
	}
	// As many and as great ones as may be.
	var asks []api.Request
	for i := range 64 {
		asks = append(asks, batchOf(n, from(i, 4000, 256)...))
	}
	s.run(asks...)
	s.values()
}

// What is found is not worked out again: by a cache that another tree has filled one sees where the hashes come from. (Of such a cache nothing is promised.)
func TestWhatIsFoundIsTold(t *testing.T) {
	l, others := some(40, "leaf"), some(40, "other")
	for _, asks := range [][]api.Request{{rootOf(9)}, {leafOf(3, 40)}, {batchOf(40, 3)}, {batchOf(40, 3, 9)}, {pairOf(3, 9)}, {chainOf(3, 9, 20)}, {pairOf(3, 9), pairOf(9, 20)}} {
		c := empty(t, 10000)
		first, _ := plan.Run(grown(t, 3, others), c, asks)
		second, _ := plan.Run(grown(t, 3, l), c, asks)
		if len(first) == 0 || !slices.EqualFunc(first, second, sameReply) {
			t.Errorf("L4: %s: what was found is not what is told", lines(asks))
		}
	}
}
