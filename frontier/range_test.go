package frontier_test

import (
	"math"
	"math/rand"
	"slices"
	"testing"

	"scrivener/api"
	"scrivener/digest"
	"scrivener/frontier"
)

func same(a, b api.Range) bool {
	return a.Begin == b.Begin && a.End == b.End && slices.Equal(a.Hashes, b.Hashes)
}

func isNothing(r api.Range) bool { return same(r, api.Range{}) }

// rangeIs holds a range that a call told to what it should be.
func rangeIs(t *testing.T, what string, got api.Range, e api.Errno, want api.Range) {
	t.Helper()
	if e != api.OK || !same(got, want) {
		t.Errorf("%s: [%d, %d), %x, %d, not [%d, %d), %x", what, got.Begin, got.End, got.Hashes, e, want.Begin, want.End, want.Hashes)
	}
}

func TestRangeExamples(t *testing.T) {
	l := some(4, "leaf")
	a, b, c, d := l[0], l[1], l[2], l[3]
	right, e := frontier.Compact(1, l[1:])
	rangeIs(t, "example 2: Compact", right, e, api.Range{Begin: 1, End: 4, Hashes: []string{b, node(c, d)}})
	left := api.Range{Begin: 0, End: 1, Hashes: []string{a}}
	all, e := frontier.Join(left, right)
	rangeIs(t, "example 2: Join", all, e, api.Range{Begin: 0, End: 4, Hashes: []string{node(node(a, b), node(c, d))}})
	if r, e := frontier.Join(right, left); !isNothing(r) || e != api.ErrFrontGap {
		t.Errorf("example 2: the other way round: %x, %d", r, e)
	}
	l = some(8, "leaf")
	r, e := frontier.Compact(3, l)
	rangeIs(t, "example 3", r, e, api.Range{Begin: 3, End: 11, Hashes: []string{
		l[0], node(node(l[1], l[2]), node(l[3], l[4])), node(l[5], l[6]), l[7],
	}})
}

func TestCompact(t *testing.T) {
	l := some(70, "leaf")
	froms := greatPlaces(rand.New(rand.NewSource(1)))
	for from := range 70 {
		froms = append(froms, from, api.MaxSize-from)
	}
	for _, from := range froms {
		for n := 0; n <= 70 && from+n <= api.MaxSize; n++ {
			r, e := frontier.Compact(from, l[:n])
			rangeIs(t, "F3: Compact", r, e, slowCompact(from, l[:n]))
		}
	}
}

func TestCompactOfMany(t *testing.T) {
	l := some(api.MaxList+1, "leaf")
	for _, from := range []int{0, 1, 2047, 2048, 4095, 4096, 1<<39 - 2048, 1<<39 - 1, api.MaxSize - api.MaxList} {
		for _, n := range []int{api.MaxList - 1, api.MaxList} {
			r, e := frontier.Compact(from, l[:n])
			rangeIs(t, "F3: Compact", r, e, slowCompact(from, l[:n]))
		}
		refuseCompact(t, from, l, api.ErrArg)
	}
}

func refuseCompact(t *testing.T, from int, leaves []string, want api.Errno) {
	t.Helper()
	if r, e := frontier.Compact(from, leaves); !isNothing(r) || e != want {
		t.Errorf("F3: Compact(%d, %d leaves): %x, %d, want %d", from, len(leaves), r, e, want)
	}
}

func TestCompactWrong(t *testing.T) {
	long := some(api.MaxList+1, "leaf")
	odd := slices.Clone(long)
	odd[2] = odd[2][1:]
	for _, from := range []int{math.MinInt, math.MinInt + 1, -api.MaxSize, -1, api.MaxSize + 1, 2 * api.MaxSize, math.MaxInt - 1, math.MaxInt} {
		for _, n := range []int{0, 1, 5, api.MaxList, api.MaxList + 1} {
			refuseCompact(t, from, long[:n], api.ErrArg)
			refuseCompact(t, from, odd[:n], api.ErrArg)
		}
	}
	for _, from := range []int{0, 5, api.MaxSize - 5000, api.MaxSize - 3, api.MaxSize} {
		refuseCompact(t, from, odd, api.ErrArg)
	}
	for less := range 20 {
		refuseCompact(t, api.MaxSize-less, long[:less+1], api.ErrFrontLast)
		refuseCompact(t, api.MaxSize-less, odd[:less+3], api.ErrFrontLast)
		refuseCompact(t, api.MaxSize-less, long[:api.MaxList], api.ErrFrontLast)
		refuseCompact(t, api.MaxSize-less-3, odd[:less+3], api.ErrFrontHash)
	}
	refuseCompact(t, api.MaxSize-api.MaxList+1, long[:api.MaxList], api.ErrFrontLast)
	for _, n := range []int{0, 1, 31, 33, 64} {
		for at := range 5 {
			l := some(5, "leaf")
			l[at] = string(make([]byte, n))
			refuseCompact(t, 3, l, api.ErrFrontHash)
		}
	}
}

// Ranges of made-up hashes: where they are of no leaves, too, each hash of the joined one is made of theirs.
func TestJoin(t *testing.T) {
	places := greatPlaces(rand.New(rand.NewSource(2)))
	for i := range 30 {
		places = append(places, i+4)
	}
	r := rand.New(rand.NewSource(3))
	for range 20000 {
		three := []int{places[r.Intn(len(places))], places[r.Intn(len(places))], places[r.Intn(len(places))]}
		slices.Sort(three)
		checkJoin(t, three[0], three[1], three[2])
	}
}

func TestJoinOfSmallOnes(t *testing.T) {
	const most = 40
	for end := range most + 1 {
		for begin := range end + 1 {
			for middle := begin; middle <= end; middle++ {
				checkJoin(t, begin, middle, end)
				checkJoin(t, api.MaxSize-end, api.MaxSize-middle, api.MaxSize-begin)
			}
		}
	}
}

func checkJoin(t *testing.T, begin, middle, end int) {
	t.Helper()
	a, b := made(begin, middle, "left"), made(middle, end, "right")
	r, e := frontier.Join(a, b)
	rangeIs(t, "F4: Join", r, e, slowJoin(a, b))
	if begin == middle && !same(r, b) || middle == end && !same(r, a) {
		t.Errorf("F4: Join of [%d, %d) and [%d, %d)", begin, middle, middle, end)
	}
}

// Places on both sides of the greatest one: a cut of nearly 80 subtrees.
func TestLongCut(t *testing.T) {
	a, b := made(1, 1<<39, "left"), made(1<<39, 1<<40-1, "right")
	r, e := frontier.Join(a, b)
	rangeIs(t, "F4: Join", r, e, slowJoin(a, b))
	if len(r.Hashes) != 78 {
		t.Errorf("F4: [1, 2^40 - 1) has %d hashes", len(r.Hashes))
	}
	a = made(0, 1, "first")
	r, e = frontier.Join(a, r)
	if want := slowJoin(a, slowJoin(made(1, 1<<39, "left"), b)); len(r.Hashes) != 40 || e != api.OK || !same(r, want) {
		t.Errorf("F4: [0, 2^40 - 1) has %d hashes, %d", len(r.Hashes), e)
	}
	b = made(1<<40-1, 1<<40, "last")
	r, e = frontier.Join(r, b)
	if len(r.Hashes) != 1 || e != api.OK {
		t.Errorf("F4: [0, 2^40) has %d hashes, %d", len(r.Hashes), e)
	}
}

// wrongForms are ranges that are not right.
func wrongForms() []api.Range {
	one, forty := some(1, "hash"), some(40, "hash")
	wrong := []api.Range{
		{Begin: -1, End: -1}, {Begin: -1, End: 0, Hashes: one}, {Begin: -1, End: 4, Hashes: one}, {Begin: 0, End: -1}, {Begin: 0, End: -1, Hashes: one},
		{Begin: 4, End: 3}, {Begin: 4, End: 3, Hashes: one}, {Begin: 4, End: 0}, {Begin: api.MaxSize, End: 0}, {Begin: math.MaxInt, End: math.MinInt},
		{Begin: 0, End: api.MaxSize + 1, Hashes: some(2, "hash")}, {Begin: api.MaxSize, End: api.MaxSize + 1, Hashes: one},
		{Begin: api.MaxSize + 1, End: api.MaxSize + 1}, {Begin: api.MaxSize + 1, End: api.MaxSize + 2, Hashes: one}, {Begin: 0, End: 2 * api.MaxSize, Hashes: one},
		{Begin: math.MinInt, End: math.MaxInt}, {Begin: math.MinInt, End: math.MinInt}, {Begin: math.MaxInt, End: math.MaxInt},
		{Begin: 0, End: math.MaxInt, Hashes: some(63, "hash")}, {Begin: math.MinInt, End: 0, Hashes: one}, {Begin: 1, End: math.MaxInt, Hashes: some(62, "hash")},
		{Begin: 0, End: 0, Hashes: one}, {Begin: 4, End: 4, Hashes: one}, {Begin: api.MaxSize, End: api.MaxSize, Hashes: one},
		{Begin: 0, End: api.MaxSize, Hashes: forty}, {Begin: 0, End: api.MaxSize - 1, Hashes: forty[1:]}, {Begin: 0, End: api.MaxSize}, {Begin: 4, End: 5, Hashes: some(5000, "hash")},
		{Begin: 1, End: 3, Hashes: one}, {Begin: 2, End: 6, Hashes: one}, {Begin: 2, End: 4, Hashes: some(2, "hash")},
	}
	return append(wrong, offByOne()...)
}

// offByOne are ranges with a hash too many or too few.
func offByOne() []api.Range {
	var wrong []api.Range
	for end := range 20 {
		for begin := range end {
			r := made(begin, end, "hash")
			wrong = append(wrong, api.Range{Begin: begin, End: end, Hashes: r.Hashes[1:]}, api.Range{Begin: begin, End: end, Hashes: append(r.Hashes, hashOf("one more"))})
		}
	}
	return wrong
}

func refuseJoin(t *testing.T, a, b api.Range, want api.Errno) {
	t.Helper()
	if r, e := frontier.Join(a, b); !isNothing(r) || e != want {
		t.Errorf("F4: Join of [%d, %d), %d hashes and [%d, %d), %d hashes: %x, %d, want %d", a.Begin, a.End, len(a.Hashes), b.Begin, b.End, len(b.Hashes), r, e, want)
	}
}

func refuseRoot(t *testing.T, r api.Range, want api.Errno) {
	t.Helper()
	if s, e := frontier.RootOf(r); s != "" || e != want {
		t.Errorf("F5: RootOf of [%d, %d), %d hashes: %x, %d, want %d", r.Begin, r.End, len(r.Hashes), s, e, want)
	}
}

// oddHashes is a range like another, one of whose hashes is none.
func oddHashes(r api.Range, at int) api.Range {
	r.Hashes = slices.Clone(r.Hashes)
	r.Hashes[at] += "x"
	return r
}

func TestJoinOfWrongForms(t *testing.T) {
	for _, wrong := range wrongForms() {
		for _, r := range []api.Range{{}, made(0, 4, "right"), made(4, 7, "right"), made(2, 1<<30, "right"), {Begin: api.MaxSize, End: api.MaxSize}, oddHashes(made(0, 4, "right"), 0)} {
			refuseJoin(t, r, wrong, api.ErrFrontForm)
			refuseJoin(t, wrong, r, api.ErrFrontForm)
		}
		refuseJoin(t, wrong, wrong, api.ErrFrontForm)
		refuseRoot(t, wrong, api.ErrFrontForm)
		if len(wrong.Hashes) > 0 {
			wrong = oddHashes(wrong, len(wrong.Hashes)-1)
			refuseJoin(t, made(0, 4, "left"), wrong, api.ErrFrontForm)
			refuseRoot(t, wrong, api.ErrFrontForm)
		}
	}
}

func TestJoinOfOddHashes(t *testing.T) {
	a, b, far := made(3, 11, "left"), made(11, 17, "right"), made(40, 47, "far")
	for at := range a.Hashes {
		refuseJoin(t, oddHashes(a, at), b, api.ErrFrontHash)
		refuseJoin(t, oddHashes(a, at), far, api.ErrFrontHash)
		refuseJoin(t, oddHashes(a, at), oddHashes(b, 0), api.ErrFrontHash)
	}
	for at := range b.Hashes {
		refuseJoin(t, a, oddHashes(b, at), api.ErrFrontHash)
		refuseJoin(t, far, oddHashes(b, at), api.ErrFrontHash)
	}
	for _, n := range []int{0, 1, 31, 33, 64} {
		odd := api.Range{Begin: 11, End: 12, Hashes: []string{string(make([]byte, n))}}
		refuseJoin(t, a, odd, api.ErrFrontHash)
		refuseJoin(t, odd, made(12, 13, "right"), api.ErrFrontHash)
	}
}

func TestJoinOfNoNeighbours(t *testing.T) {
	for begin := range 12 {
		for end := begin; end < 12; end++ {
			a := made(begin, end, "left")
			for other := range 12 {
				if other == end {
					continue
				}
				refuseJoin(t, a, made(other, 12, "right"), api.ErrFrontGap)
				refuseJoin(t, a, made(other, other, "nothing"), api.ErrFrontGap)
			}
		}
	}
	refuseJoin(t, made(0, api.MaxSize, "all"), made(0, api.MaxSize, "all"), api.ErrFrontGap)
	refuseJoin(t, made(0, api.MaxSize, "all"), api.Range{}, api.ErrFrontGap)
}

func TestRootOf(t *testing.T) {
	sizes := greatPlaces(rand.New(rand.NewSource(4)))
	for n := range 200 {
		sizes = append(sizes, n)
	}
	for _, n := range sizes {
		r := made(0, n, "node")
		s, e := frontier.RootOf(r)
		if s != slowRoot(r.Hashes) || e != api.OK {
			t.Errorf("F5: RootOf of [0, %d): %x, %d", n, s, e)
		}
		if edge := load(t, n, r.Hashes); s != edge.Root() {
			t.Errorf("F5: RootOf of [0, %d): %x, its edge's: %x", n, s, edge.Root())
		}
		for at := range r.Hashes {
			refuseRoot(t, oddHashes(r, at), api.ErrFrontHash)
		}
	}
	if s, e := frontier.RootOf(api.Range{}); s != digest.Empty() || e != api.OK {
		t.Errorf("F5: RootOf of nothing: %x, %d", s, e)
	}
}

func TestRootOfLaterOnes(t *testing.T) {
	for begin := 1; begin < 12; begin++ {
		for end := begin; end < 20; end++ {
			r := made(begin, end, "node")
			refuseRoot(t, r, api.ErrFrontForm)
			if end > begin {
				refuseRoot(t, oddHashes(r, 0), api.ErrFrontForm)
			}
		}
	}
	refuseRoot(t, made(api.MaxSize, api.MaxSize, "nothing"), api.ErrFrontForm)
	refuseRoot(t, made(1<<39, 1<<40, "node"), api.ErrFrontForm)
}
