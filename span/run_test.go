package span_test

import (
	"math"
	"math/rand"
	"slices"
	"strconv"
	"strings"
	"sync"
	"testing"

	"scrivener/api"
	"scrivener/span"
	"scrivener/tile"
)

func refused(t *testing.T, what string, r api.Run, e, want api.Errno) {
	t.Helper()
	if e != want || r.Size != 0 || r.Begin != 0 || r.End != 0 || len(r.Hashes) != 0 {
		t.Errorf("%s: %x, %d, want the error %d and nothing else", what, r, e, want)
	}
}

// fail holds the calls that read a run to an error.
func fail(t *testing.T, what string, r api.Run, leaves []string, want api.Errno) {
	t.Helper()
	if root, e := span.Root(r, leaves); root != "" || e != want {
		t.Errorf("P2: %s: Root: %x, %d, want the error %d", what, root, e, want)
	}
	for _, root := range []string{"", hashOf("root"), "short"} {
		if e := span.Check(r, leaves, root); e != want {
			t.Errorf("P2: %s: Check: %d, want the error %d", what, e, want)
		}
	}
}

func TestExampleOfRuns(t *testing.T) {
	l := some(5, "leaf")
	x := grown(t, 2, l)
	r, e := span.Prove(x, 5, at(1, 3))
	if e != api.OK || !sameRun(r, api.Run{Size: 5, Begin: 1, End: 3, Hashes: []string{l[0], l[3], l[4]}}) {
		t.Errorf("P1: Prove(5, [1, 3)): %x, %d", r, e)
	}
	want := node(node(node(l[0], l[1]), node(l[2], l[3])), l[4])
	if root, e := span.Root(r, l[1:3]); root != want || e != api.OK {
		t.Errorf("P2: Root: %x, %d", root, e)
	}
	if e := span.Check(r, l[1:3], want); e != api.OK {
		t.Errorf("P2: Check: %d", e)
	}
	if e := span.Check(r, l[1:3], l[0]); e != api.ErrSpanRoot {
		t.Errorf("P2: Check of another root: %d", e)
	}
	r, e = span.Prove(x, 5, at(0, 5))
	if e != api.OK || !sameRun(r, api.Run{Size: 5, End: 5}) {
		t.Errorf("P1: Prove of all: %x, %d", r, e)
	}
	isRoot(t, r, l)
	r, e = span.Prove(x, 5, at(2, 2))
	refused(t, "P1: Prove(5, [2, 2))", r, e, api.ErrSpanRange)
}

// The told subtrees by their words: all subtrees that have none of the run's leaves, without those that are part of a greater one of them.
func TestToldByWords(t *testing.T) {
	var subtrees func(s api.Span) []api.Span
	subtrees = func(s api.Span) []api.Span {
		if s.End-s.Begin == 1 {
			return []api.Span{s}
		}
		left, right := parts(s)
		return slices.Concat([]api.Span{s}, subtrees(left), subtrees(right))
	}
	l := some(21, "leaf")
	x, m := grown(t, 3, l), modelOf(l)
	for n := 1; n <= len(l); n++ {
		for b := range n {
			for e := b + 1; e <= n; e++ {
				bare := slices.DeleteFunc(subtrees(at(0, n)), func(s api.Span) bool { return s.Begin < e && b < s.End })
				told := slices.DeleteFunc(slices.Clone(bare), func(s api.Span) bool {
					return slices.ContainsFunc(bare, func(o api.Span) bool { return o != s && o.Begin <= s.Begin && s.End <= o.End })
				})
				slices.SortFunc(told, func(a, b api.Span) int { return a.Begin - b.Begin })
				var want []string
				for _, s := range told {
					want = append(want, m.hash(s))
				}
				if r, e := span.Prove(x, n, at(b, e)); !slices.Equal(r.Hashes, want) || e != api.OK {
					t.Errorf("P1: Prove(%d, %v): not the hashes of %v: %d", n, at(r.Begin, r.End), told, e)
				}
			}
		}
	}
}

// All spans of all small sizes, runs or not, also of a tree that has grown on since.
func TestAllSpans(t *testing.T) {
	l := some(30, "leaf")
	m := modelOf(l)
	for height := 1; height <= 8; height++ {
		x := grown(t, height, l)
		for n := -1; n <= len(l)+2; n++ {
			for b := -2; b <= n+2; b++ {
				for e := -2; e <= n+2; e++ {
					r := isProve(t, x, m, n, at(b, e))
					if height == 1 && r.Size > 0 {
						isRoot(t, r, m.leaves(at(b, e)))
					}
				}
			}
		}
		if testing.Short() {
			break
		}
	}
}

// Leaf by leaf, so that a tree is asked while its tiles are half full.
func TestWhileItGrows(t *testing.T) {
	r := rand.New(rand.NewSource(1))
	l := some(70, "leaf")
	for height := 1; height <= 8; height++ {
		x := grown(t, height, nil)
		for n := 1; n <= len(l); n++ {
			adds(t, x, l[n-1:n])
			m := modelOf(l[:n])
			for range 5 {
				size := 1 + r.Intn(n)
				b := r.Intn(size)
				s := at(b, b+1+r.Intn(size-b))
				isRoot(t, isProve(t, x, m, size, s), m.leaves(s))
			}
			isProve(t, x, m, n, at(0, n))
			isProve(t, x, m, n, at(n-1, n))
			isProve(t, x, m, n+1, at(0, 1))
			isProve(t, x, m, n+1, at(n, n+1))
			isProve(t, x, m, n, at(n, n+1))
		}
	}
}

// Where nothing is kept, any hashes and any leaves lead to a root.
func TestAnyHashesOfGreatSizes(t *testing.T) {
	r := rand.New(rand.NewSource(2))
	for i, n := range greatSizes(r) {
		for _, s := range runsOf(r, n) {
			count := len(toldIn(at(0, n), s))
			run := api.Run{Size: n, Begin: s.Begin, End: s.End, Hashes: some(count, "told "+strconv.Itoa(i))}
			leaves := some(s.End-s.Begin, "leaf")
			isRoot(t, run, leaves)
			run.Hashes = append(run.Hashes, leaves[0])
			isRoot(t, run, leaves)
			if count > 0 {
				run.Hashes = run.Hashes[:count-1]
				isRoot(t, run, leaves)
			}
		}
	}
}

// As many leaves as there may be, with hashes on both sides of them: together they are more than any list of leaves.
func TestMostLeaves(t *testing.T) {
	for _, c := range []struct{ size, from int }{
		{4096, 0}, {4097, 0}, {4097, 1}, {4098, 1}, {8192, 2048}, {8192, 4096}, {8191, 1}, {9999, 5000}, {1 << 20, 1<<19 - 3},
		{1 << 40, 0}, {1 << 40, 1}, {1 << 40, 1<<39 - 1}, {1 << 40, 1<<39 - 2048}, {1 << 40, 1<<40 - 4096}, {1 << 40, 1<<40 - 4097}, {1<<40 - 1, 1<<39 - 1},
	} {
		for count := 4094; count <= 4098; count++ {
			s := at(c.from, c.from+count)
			if s.End > c.size {
				continue
			}
			run := api.Run{Size: c.size, Begin: s.Begin, End: s.End, Hashes: some(len(toldIn(at(0, c.size), s)), "told")}
			isRoot(t, run, some(count, "leaf"))
			if _, e := span.Root(run, some(count, "leaf")); (e == api.OK) != (count <= 4096) {
				t.Errorf("P2: Root of %d leaves: %d", count, e)
			}
		}
	}
}

// Of a run that has more leaves than can be handed in, none are right, however few they are.
func TestRunsOfTooManyLeaves(t *testing.T) {
	for _, n := range []int{4097, 5000, 1 << 20, 1<<40 - 1, 1 << 40} {
		run := api.Run{Size: n, End: n}
		for _, count := range []int{0, 1, 4095, 4096, 4097, 5000} {
			fail(t, "too long a run", run, some(count, "leaf"), api.ErrSpanForm)
		}
		fail(t, "too long a run, and hashes", api.Run{Size: n, End: n, Hashes: some(1, "told")}, nil, api.ErrSpanForm)
	}
	// But it is told.
	l := some(5000, "leaf")
	x, m := grown(t, 8, l), modelOf(l)
	for _, s := range []api.Span{at(0, 4096), at(0, 4097), at(0, 5000), at(1, 4999), at(903, 5000), at(904, 5000)} {
		if r := isProve(t, x, m, 5000, s); r.Size == 0 {
			t.Errorf("P1: Prove of %v: refused", s)
		}
	}
}

func TestWrongSizes(t *testing.T) {
	l := some(9, "leaf")
	x := grown(t, 2, l)
	for _, size := range odd() {
		for _, s := range append(noRuns(9), at(0, 1), at(0, 9), at(3, 7), at(0, size), at(size-1, size)) {
			r, e := span.Prove(x, size, s)
			refused(t, "P1: a wrong size", r, e, api.ErrSpanRange)
			for _, hashes := range [][]string{nil, l, {"x"}} {
				fail(t, "a wrong size", api.Run{Size: size, Begin: s.Begin, End: s.End, Hashes: hashes}, l[:1], api.ErrSpanRange)
			}
		}
	}
	// A size that is there, where nothing is kept, but not in the tree.
	for _, size := range []int{10, 11, 16, 1 << 20, 1<<20 + 1, 1 << 40} {
		for _, s := range append(noRuns(9), at(0, 1), at(0, 9), at(9, 10), at(0, size)) {
			r, e := span.Prove(x, size, s)
			refused(t, "P1: beyond the tree", r, e, api.ErrSpanRange)
		}
	}
}

func TestNoRuns(t *testing.T) {
	l := some(40, "leaf")
	x := grown(t, 3, l)
	for _, size := range []int{1, 2, 3, 8, 39, 40, 1 << 20, 1<<40 - 1, 1 << 40} {
		for _, s := range noRuns(size) {
			if size <= 40 {
				r, e := span.Prove(x, size, s)
				refused(t, "P1: no run", r, e, api.ErrSpanRange)
			}
			for _, hashes := range [][]string{nil, l[:1], {"x"}} {
				for _, leaves := range [][]string{nil, l[:1], {"x"}, some(4097, "leaf")} {
					fail(t, "no run", api.Run{Size: size, Begin: s.Begin, End: s.End, Hashes: hashes}, leaves, api.ErrSpanRange)
				}
			}
		}
	}
	fail(t, "nothing", api.Run{}, nil, api.ErrSpanRange)
}

// wrongHashes are texts that are no hashes.
func wrongHashes() []string {
	return []string{"", "x", strings.Repeat("x", 31), strings.Repeat("x", 33), strings.Repeat("x", 64), strings.Repeat("é", 32)}
}

func TestWrongForms(t *testing.T) {
	l := some(13, "leaf")
	x, m := grown(t, 2, l), modelOf(l)
	for n := 1; n <= len(l); n++ {
		for _, s := range []api.Span{at(0, 1), at(n-1, n), at(n/2, n), at(0, n), at(0, (n+1)/2), at(n/3, n-n/3)} {
			r, leaves := isProve(t, x, m, n, s), m.leaves(s)
			isRoot(t, r, leaves)
			with := func(hashes []string) api.Run {
				return api.Run{Size: n, Begin: s.Begin, End: s.End, Hashes: hashes}
			}
			fail(t, "a hash more", with(append(slices.Clone(r.Hashes), l[0])), leaves, api.ErrSpanForm)
			fail(t, "a leaf more", r, append(slices.Clone(leaves), l[0]), api.ErrSpanForm)
			fail(t, "many more", with(some(5000, "told")), some(5000, "leaf"), api.ErrSpanForm)
			fail(t, "a leaf less", r, leaves[1:], api.ErrSpanForm)
			fail(t, "no leaves", r, nil, api.ErrSpanForm)
			if len(r.Hashes) > 0 {
				fail(t, "a hash less", with(r.Hashes[1:]), leaves, api.ErrSpanForm)
				fail(t, "no hashes", with(nil), leaves, api.ErrSpanForm)
				fail(t, "a hash as a leaf", with(r.Hashes[1:]), append(slices.Clone(leaves), r.Hashes[0]), api.ErrSpanForm)
			}
			for _, wrong := range wrongHashes() {
				for i := range r.Hashes {
					hashes := slices.Clone(r.Hashes)
					hashes[i] = wrong
					fail(t, "no hash among those told", with(hashes), leaves, api.ErrSpanForm)
				}
				for i := range leaves {
					others := slices.Clone(leaves)
					others[i] = wrong
					fail(t, "no hash among the leaves", r, others, api.ErrSpanForm)
				}
			}
		}
	}
}

// Anything that is handed in as a run and leaves, right or not.
func TestAnything(t *testing.T) {
	r := rand.New(rand.NewSource(3))
	hashes := append(some(20, "any"), wrongHashes()...)
	pick := func(n int) []string {
		var l []string
		for range n {
			// Mostly hashes, so that some are right.
			l = append(l, hashes[r.Intn(20)])
			if r.Intn(40) == 0 {
				l[len(l)-1] = hashes[r.Intn(len(hashes))]
			}
		}
		return l
	}
	right := 0
	for range 20000 {
		size := r.Intn(40) - 1
		run := api.Run{Size: size, Begin: r.Intn(size+4) - 1, End: r.Intn(size+4) - 1}
		count, length := 0, r.Intn(4)
		if isRun(size, at(run.Begin, run.End)) {
			count, length = len(toldIn(at(0, size), at(run.Begin, run.End))), run.End-run.Begin
		}
		run.Hashes = pick(max(0, count+(r.Intn(9)-4)/4))
		leaves := pick(max(0, length+(r.Intn(9)-4)/4))
		isRoot(t, run, leaves)
		if _, e := slowRoot(run, leaves); e == api.OK {
			right++
		}
	}
	if right < 2000 || right > 18000 {
		t.Errorf("only one kind was met: %d of 20000 are right", right)
	}
}

func TestOtherRoots(t *testing.T) {
	l := some(7, "leaf")
	x, m := grown(t, 2, l), modelOf(l)
	for n := 1; n <= len(l); n++ {
		r := isProve(t, x, m, n, at(0, 1))
		root := m.hash(at(0, n))
		others := append(wrongHashes(), root+"x", root[:31], "\x00"+root, hashOf(""), l[1], strings.Repeat("\x00", 32))
		for i := range root {
			others = append(others, root[:i]+string([]byte{root[i] ^ 1})+root[i+1:])
		}
		for _, other := range others {
			if e := span.Check(r, l[:1], other); e != api.ErrSpanRoot {
				t.Errorf("P2: Check(%d) of the root %x: %d", n, other, e)
			}
		}
		for size := 1; size <= len(l); size++ {
			want := api.ErrSpanRoot
			if size == n {
				want = api.OK
			}
			if e := span.Check(r, l[:1], m.hash(at(0, size))); e != want {
				t.Errorf("P2: Check(%d) of the root of %d: %d", n, size, e)
			}
		}
	}
}

// Leaves and hashes are 32 bytes of any kind: all the same, or such as are nodes of the tree.
func TestSameHashes(t *testing.T) {
	one := some(1, "leaf")
	nodes := some(4, "leaf")
	nodes = append(nodes, node(nodes[0], nodes[1]), node(nodes[2], nodes[3]), strings.Repeat("\x00", 32), hashOf(""))
	for _, l := range [][]string{slices.Repeat(one, 11), nodes} {
		x, m := grown(t, 1, l), modelOf(l)
		for n := 1; n <= len(l); n++ {
			for b := range n {
				for e := b + 1; e <= n; e++ {
					r := isProve(t, x, m, n, at(b, e))
					isRoot(t, r, m.leaves(at(b, e)))
					r.Hashes = slices.Repeat(one, len(r.Hashes))
					isRoot(t, r, m.leaves(at(b, e)))
				}
			}
		}
	}
}

// Where layer 7 made no tree, there are no leaves.
func TestNoTree(t *testing.T) {
	none, _ := tile.New(0)
	for _, x := range []*tile.Tree{nil, none, none.Clone(), grown(t, 1, nil)} {
		for _, size := range append(odd(), 1, 2, 1<<20, 1<<40) {
			for _, s := range []api.Span{{}, at(0, 1), at(1, 2), at(0, size), at(math.MinInt, math.MaxInt)} {
				r, e := span.Prove(x, size, s)
				refused(t, "P1: of no leaves", r, e, api.ErrSpanRange)
			}
		}
	}
}

// full is a tree of as many leaves as there may be, with its model.
var full = sync.OnceValue(func() (all struct {
	tree  *tile.Tree
	model model
}) {
	l := some(api.MaxLeaves, "leaf")
	all.tree, _ = tile.New(8)
	for _, leaf := range l {
		all.tree.Add(leaf)
	}
	all.model = modelOf(l)
	return all
})

func TestFullTree(t *testing.T) {
	if testing.Short() {
		t.Skip("it has 1048576 leaves")
	}
	r := rand.New(rand.NewSource(4))
	x, m := full().tree, full().model
	for _, size := range []int{1, 255, 256, 257, 65537, 1<<19 - 1, 1 << 19, 1<<19 + 1, 700001, 1<<20 - 1, 1 << 20} {
		for _, s := range append(runsOf(r, size), at(size/2, min(size, size/2+4096))) {
			isRoot(t, isProve(t, x, m, size, s), m.leaves(s))
		}
		for _, s := range append(noRuns(size), at(0, size), at(1, size), at(0, size-1), at(size/3, size-1)) {
			isProve(t, x, m, size, s)
		}
	}
	for _, size := range []int{1<<20 + 1, 1 << 21, 1 << 40} {
		isProve(t, x, m, size, at(0, 1))
		isProve(t, x, m, size, at(0, size))
	}
}
