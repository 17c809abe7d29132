package chain_test

import (
	"math"
	"math/rand"
	"slices"
	"strconv"
	"strings"
	"sync"
	"testing"

	"scrivener/api"
	"scrivener/chain"
	"scrivener/shape"
	"scrivener/tile"
)

func refused(t *testing.T, what string, c api.Chain, e, want api.Errno) {
	t.Helper()
	if e != want || len(c.Heads) != 0 || len(c.Hashes) != 0 {
		t.Errorf("%s: %x, %d, want the error %d and nothing else", what, c, e, want)
	}
}

// fail holds the two calls that read a chain to an error, with any roots.
func fail(t *testing.T, what string, c api.Chain, want api.Errno) {
	t.Helper()
	if proofs, e := chain.Expand(c); len(proofs) != 0 || e != want {
		t.Errorf("C3: %s: Expand of %v: %x, %d, want the error %d", what, c.Heads, proofs, e, want)
	}
	for _, roots := range [][]string{some(len(c.Heads), "root"), nil, {"x"}, some(len(c.Heads)+1, "root"), slices.Repeat([]string{""}, len(c.Heads))} {
		if e := chain.Check(c, roots); e != want {
			t.Errorf("C4: %s: Check of %v with %d roots: %d, want the error %d", what, c.Heads, len(roots), e, want)
		}
	}
}

func TestExampleOfThree(t *testing.T) {
	spans, e := chain.Nodes([]int{3, 5, 6})
	if !slices.Equal(spans, []api.Span{at(2, 3), at(3, 4), at(0, 2), at(4, 5), at(5, 6)}) || e != api.OK {
		t.Errorf("C1: Nodes(3 5 6): %v, %d", spans, e)
	}
	l := some(6, "leaf")
	x := grown(t, 2, l)
	ab, cd := node(l[0], l[1]), node(l[2], l[3])
	c, e := chain.Prove(x, []int{3, 5, 6})
	if !sameChain(c, api.Chain{Heads: []int{3, 5, 6}, Hashes: []string{l[2], l[3], ab, l[4], l[5]}}) || e != api.OK {
		t.Errorf("C2: Prove(3 5 6): %x, %d", c, e)
	}
	proofs, e := chain.Expand(c)
	if !sameProofs(proofs, [][]string{{l[2], l[3], ab, l[4]}, {l[4], l[5], node(ab, cd)}}) || e != api.OK {
		t.Errorf("C3: Expand(3 5 6): %x, %d", proofs, e)
	}
	of := []string{node(ab, l[2]), node(node(ab, cd), l[4]), node(node(ab, cd), node(l[4], l[5]))}
	if e := chain.Check(c, of); e != api.OK {
		t.Errorf("C4: Check(3 5 6): %d", e)
	}
}

func TestExampleOfOneAndOfNone(t *testing.T) {
	if spans, e := chain.Nodes([]int{4}); len(spans) != 0 || e != api.OK {
		t.Errorf("C1: Nodes(4): %v, %d", spans, e)
	}
	for _, heads := range [][]int{nil, {0, 1}, {2, 2}} {
		if spans, e := chain.Nodes(heads); len(spans) != 0 || e != api.ErrChainHeads {
			t.Errorf("C1: Nodes(%v): %v, %d", heads, spans, e)
		}
	}
	if proofs, e := chain.Expand(api.Chain{Heads: []int{4}}); len(proofs) != 0 || e != api.OK {
		t.Errorf("C3: Expand(4): %x, %d", proofs, e)
	}
	fail(t, "no hash", api.Chain{Heads: []int{1, 2}}, api.ErrChainForm)
}

// Of one head there is nothing to be shown: any root is taken.
func TestOneHead(t *testing.T) {
	for _, n := range []int{1, 2, 3, 4, 1000, 1<<40 - 1, 1 << 40} {
		isNodes(t, []int{n})
		c := api.Chain{Heads: []int{n}}
		isExpand(t, c)
		for _, root := range some(3, "root") {
			if e := chain.Check(c, []string{root}); e != api.OK {
				t.Errorf("C4: Check(%d): %d", n, e)
			}
		}
		for _, roots := range [][]string{nil, {""}, {hashOf("a") + "x"}, some(2, "root")} {
			if e := chain.Check(c, roots); e != api.ErrChainForm {
				t.Errorf("C4: Check(%d) with %q: %d", n, roots, e)
			}
		}
		fail(t, "a hash", api.Chain{Heads: []int{n}, Hashes: some(1, "told")}, api.ErrChainForm)
	}
}

// All sets of heads of small sizes, also of a tree that has grown on since.
func TestAllSets(t *testing.T) {
	l := some(13, "leaf")
	m := modelOf(l)
	for height := 1; height <= 8; height++ {
		x := grown(t, height, l)
		for _, heads := range sets(10) {
			c := isProve(t, x, m, heads)
			if height == 1 {
				isNodes(t, heads)
				isExpand(t, c)
				if isCheck(t, c, roots(m, heads)) != api.OK {
					t.Errorf("C4: %v: the model does not take its own", heads)
				}
			}
		}
		if testing.Short() {
			break
		}
	}
}

// The spans by layer 8's own words: Fold is asked of each span of Proof, with any hashes.
func TestNodesByLayer8(t *testing.T) {
	r := rand.New(rand.NewSource(1))
	lists := sets(11)
	for range 60 {
		lists = append(lists, someOf(r, 500, 2+r.Intn(40)), about(r, 2+r.Intn(12)))
	}
	for _, heads := range lists {
		var told []api.Span
		for i := 1; i < len(heads); i++ {
			spans, _ := shape.Proof(heads[i-1], heads[i])
			for _, s := range spans {
				_, e := shape.Fold(heads[i], told, slices.Repeat([]string{hashOf("any")}, len(told)), s)
				if e != api.OK && e != api.ErrShapeOrder {
					t.Fatalf("layer 8: Fold: %d", e)
				}
				if e != api.OK {
					told = append(told, s)
				}
			}
		}
		if spans, e := chain.Nodes(heads); !slices.Equal(spans, told) || e != api.OK {
			t.Errorf("C1: Nodes(%v): %v, %d, want %v", heads, spans, e, told)
		}
	}
}

// Leaf by leaf, so that a tree is asked while its tiles are half full.
func TestWhileItGrows(t *testing.T) {
	r := rand.New(rand.NewSource(2))
	l := some(70, "leaf")
	for height := 1; height <= 8; height++ {
		x := grown(t, height, nil)
		for n := 1; n <= len(l); n++ {
			adds(t, x, l[n-1:n])
			m := modelOf(l[:n])
			for _, k := range []int{1, 2, n/2 + 1, n} {
				heads := someOf(r, n, min(k, 64))
				c := isProve(t, x, m, heads)
				isExpand(t, c)
				isCheck(t, c, roots(m, heads))
			}
			isProve(t, x, m, from(1, 1, n))
			isProve(t, x, m, from(1, 1, n+1))
			isProve(t, x, m, []int{n})
			isProve(t, x, m, []int{n + 1})
			isProve(t, x, m, []int{1, n + 1})
			isProve(t, x, m, []int{n, n + 1})
		}
	}
}

func TestNodesOfGreatHeads(t *testing.T) {
	r := rand.New(rand.NewSource(3))
	for _, heads := range greatLists(r) {
		isNodes(t, heads)
	}
	for _, c := range []struct {
		heads []int
		want  int
	}{
		{[]int{1, 2}, 1}, {[]int{1, 1 << 40}, 40}, {[]int{1 << 39, 1 << 40}, 1}, {[]int{1<<40 - 1, 1 << 40}, 41}, {[]int{1 << 40}, 0},
		{from(1, 1, 64), 64}, {from(2, 2, 32), 32}, {[]int{1<<40 - 2, 1<<40 - 1, 1 << 40}, 41}, {[]int{1, 1<<40 - 1, 1 << 40}, 81},
	} {
		if spans, e := chain.Nodes(c.heads); len(spans) != c.want || e != api.OK {
			t.Errorf("C1: Nodes(%v): %d spans, %d, want %d", c.heads, len(spans), e, c.want)
		}
	}
}

// Where nothing is kept, any hashes are expanded: what is folded is folded of them as they stand.
func TestAnyHashesOfGreatHeads(t *testing.T) {
	r := rand.New(rand.NewSource(4))
	for i, heads := range greatLists(r) {
		spans, e := chain.Nodes(heads)
		if e != api.OK {
			t.Fatalf("C1: Nodes(%v): %d", heads, e)
		}
		c := api.Chain{Heads: heads, Hashes: some(len(spans), "told "+strconv.Itoa(i))}
		isExpand(t, c)
		isCheck(t, c, some(len(heads), "root"))
	}
}

// Of two heads any hashes lead from a root to another one.
func TestAnyHashesOfTwo(t *testing.T) {
	r := rand.New(rand.NewSource(5))
	taken := 0
	for i := range 300 {
		heads := about(r, 2)
		c := api.Chain{Heads: heads, Hashes: some(len(isNodes(t, heads)), "told "+strconv.Itoa(i))}
		old := hashOf("old")
		old, now := leadsTo(heads[0], at(0, heads[1]), true, old, c.Hashes)
		for _, of := range [][]string{{old, now}, {now, old}, {hashOf("old"), now}, {old, old}, {now, now}} {
			if isCheck(t, c, of) == api.OK {
				taken++
			}
		}
	}
	if taken < 300 {
		t.Errorf("only %d were taken", taken)
	}
}

// A tree of 2^40 leaves, of which nothing is kept: its chains are taken with its roots, and with no others.
func TestVastTree(t *testing.T) {
	r := rand.New(rand.NewSource(6))
	for i, heads := range greatLists(r) {
		var others []int
		for _, n := range heads[:min(len(heads), 8)] {
			others = append(others, n-1, r.Intn(n))
		}
		x, y := vastOf(others, "one"), vastOf(others, "two")
		c, _ := slowProve(x, 1<<40, heads)
		isExpand(t, c)
		if isCheck(t, c, roots(x, heads)) != api.OK {
			t.Errorf("C5: %v: the model does not take its own", heads)
		}
		if len(heads) > 1 && isCheck(t, c, roots(y, heads)) != api.ErrChainRoot {
			t.Errorf("C4: %v: the model takes another tree's", heads)
		}
		if testing.Short() && i > 30 {
			break
		}
	}
}

func TestMostHeads(t *testing.T) {
	l := some(200, "leaf")
	x, m := grown(t, 3, l), modelOf(l)
	for _, step := range []int{1, 2, 3} {
		for k := 62; k <= 66; k++ {
			heads := from(1, step, k)
			isNodes(t, heads)
			c := isProve(t, x, m, heads)
			if k > 64 {
				refused(t, "C2: too many heads", c, api.ErrChainHeads, api.ErrChainHeads)
				fail(t, "too many heads", api.Chain{Heads: heads, Hashes: some(k-1, "told")}, api.ErrChainHeads)
				continue
			}
			isExpand(t, c)
			if isCheck(t, c, roots(m, heads)) != api.OK {
				t.Errorf("C4: %v: the model does not take its own", heads)
			}
		}
	}
}

func TestWrongHeads(t *testing.T) {
	l := some(70, "leaf")
	x := grown(t, 2, l)
	for _, heads := range wrongHeads() {
		if headsMayBe(heads) {
			t.Fatalf("the heads %v may be", heads)
		}
		if spans, e := chain.Nodes(heads); len(spans) != 0 || e != api.ErrChainHeads {
			t.Errorf("C1: Nodes(%v): %v, %d", heads, spans, e)
		}
		c, e := chain.Prove(x, heads)
		refused(t, "C2: wrong heads", c, e, api.ErrChainHeads)
		for _, hashes := range [][]string{nil, l[:1], l[:2], {""}, {"x", l[0]}, some(5000, "told")} {
			fail(t, "wrong heads", api.Chain{Heads: heads, Hashes: hashes}, api.ErrChainHeads)
		}
	}
}

// Heads that may be, where nothing is kept, but go beyond the tree.
func TestBeyondTheTree(t *testing.T) {
	for _, size := range []int{0, 1, 2, 9, 64} {
		x := grown(t, 2, some(size, "leaf"))
		for _, heads := range [][]int{{size + 1}, {1, size + 2}, {size + 1, size + 2}, {1 << 20}, {1<<20 + 1}, {1, 1 << 40}, {1 << 40}, from(1, 1, 65), from(1, 10, 64)} {
			c, e := chain.Prove(x, heads)
			refused(t, "C2: beyond the tree", c, e, api.ErrChainHeads)
		}
		if size > 1 {
			c, e := chain.Prove(x, []int{1, size, size + 1})
			refused(t, "C2: beyond the tree", c, e, api.ErrChainHeads)
		}
	}
}

// wrongHashes are texts that are no hashes.
func wrongHashes() []string {
	return []string{"", "x", strings.Repeat("x", 31), strings.Repeat("x", 33), strings.Repeat("x", 64), strings.Repeat("é", 32)}
}

// with is a list with something else at a place.
func with(l []string, i int, other string) []string {
	l = slices.Clone(l)
	l[i] = other
	return l
}

func TestWrongForms(t *testing.T) {
	l := some(70, "leaf")
	x, m := grown(t, 2, l), modelOf(l)
	for _, heads := range append(sets(6), []int{3, 5, 6}, from(1, 1, 64), []int{1, 64, 65, 70}, []int{63, 64, 70}) {
		c := isProve(t, x, m, heads)
		of := func(hashes []string) api.Chain { return api.Chain{Heads: heads, Hashes: hashes} }
		fail(t, "a hash more", of(append(slices.Clone(c.Hashes), l[0])), api.ErrChainForm)
		fail(t, "no hash more", of(append(slices.Clone(c.Hashes), "")), api.ErrChainForm)
		fail(t, "many more", of(some(5000, "told")), api.ErrChainForm)
		if len(c.Hashes) > 0 {
			fail(t, "a hash less", of(c.Hashes[1:]), api.ErrChainForm)
			fail(t, "the last one less", of(c.Hashes[:len(c.Hashes)-1]), api.ErrChainForm)
			fail(t, "no hashes", of(nil), api.ErrChainForm)
		}
		for _, wrong := range wrongHashes() {
			for i := range c.Hashes {
				fail(t, "no hash among those told", of(with(c.Hashes, i, wrong)), api.ErrChainForm)
			}
		}
		// As many as all proofs have together, though some are told twice then.
		if proofs := slices.Concat(isExpand(t, c)...); len(proofs) != len(c.Hashes) {
			fail(t, "all proofs", of(proofs), api.ErrChainForm)
		}
	}
}

// Roots that are not as many as heads, or no hashes: that is told ahead of proofs that lead elsewhere.
func TestWrongRoots(t *testing.T) {
	l := some(20, "leaf")
	x, m := grown(t, 2, l), modelOf(l)
	for _, heads := range append(sets(6), []int{3, 5, 20}, from(1, 1, 20)) {
		c, of := isProve(t, x, m, heads), roots(m, heads)
		bad := api.Chain{Heads: heads, Hashes: some(len(c.Hashes), "other")}
		for _, c := range []api.Chain{c, bad} {
			lists := [][]string{nil, {}, of[1:], of[:len(of)-1], append(slices.Clone(of), of[0]), slices.Concat(of, of), some(len(of)+1, "root"), some(70, "root")}
			for i := range of {
				for _, wrong := range wrongHashes() {
					lists = append(lists, with(of, i, wrong), with(some(len(of), "root"), i, wrong))
				}
			}
			for _, list := range lists {
				if e := chain.Check(c, list); e != api.ErrChainForm {
					t.Errorf("C4: Check of %v with the roots %x: %d", heads, list, e)
				}
			}
		}
	}
}

func TestOtherRoots(t *testing.T) {
	l := some(9, "leaf")
	x, m := grown(t, 2, l), modelOf(l)
	for _, heads := range sets(9) {
		c, of := isProve(t, x, m, heads), roots(m, heads)
		if len(heads) == 1 {
			continue
		}
		for i, n := range heads {
			flipped := of[i][:31] + string([]byte{of[i][31] ^ 1})
			for _, other := range []string{flipped, hashOf(""), strings.Repeat("\x00", 32), of[(i+1)%len(of)], m.hash(at(0, n%9+1))} {
				if e := chain.Check(c, with(of, i, other)); e != api.ErrChainRoot {
					t.Errorf("C4: Check of %v with another root of %d: %d", heads, n, e)
				}
			}
		}
		turned := slices.Clone(of)
		slices.Reverse(turned)
		if e := chain.Check(c, turned); e != api.ErrChainRoot {
			t.Errorf("C4: Check of %v with its roots turned round: %d", heads, e)
		}
	}
}

// Anything that is handed in as a chain and roots, right or not.
func TestAnything(t *testing.T) {
	r := rand.New(rand.NewSource(7))
	l := some(12, "leaf")
	m := modelOf(l)
	hashes := append(some(20, "any"), wrongHashes()...)
	met := map[api.Errno]int{}
	for range 20000 {
		var heads []int
		for i := range 13 {
			if r.Intn(4) == 0 && (i > 0 || r.Intn(5) == 0) {
				heads = append(heads, i)
			}
		}
		if len(heads) > 1 && r.Intn(20) == 0 {
			heads[0] = heads[len(heads)-1]
		}
		c, _ := slowProve(m, 12, heads)
		c.Heads, c.Hashes = heads, slices.Clone(c.Hashes)
		of := some(len(heads), "root")
		if headsMayBe(heads) {
			of = roots(m, heads)
		}
		for _, list := range []*[]string{&c.Hashes, &of} {
			switch k := r.Intn(12); {
			case k == 0:
				*list = append(*list, hashes[0])
			case k == 1 && len(*list) > 0:
				*list = (*list)[1:]
			case k < 5 && len(*list) > 0:
				// Mostly hashes, so that some are right.
				(*list)[r.Intn(len(*list))] = hashes[r.Intn(20+r.Intn(7))]
			}
		}
		isNodes(t, heads)
		isExpand(t, c)
		met[isCheck(t, c, of)]++
	}
	for _, e := range []api.Errno{api.OK, api.ErrChainHeads, api.ErrChainForm, api.ErrChainRoot} {
		if met[e] < 500 {
			t.Errorf("the answer %d was met %d times", e, met[e])
		}
	}
}

// Leaves and hashes are 32 bytes of any kind: all the same, or such as are nodes of the tree. Spans are told apart by their places, not by their hashes.
func TestSameHashes(t *testing.T) {
	one := some(1, "leaf")
	l := slices.Repeat(one, 10)
	x, m := grown(t, 1, l), modelOf(l)
	for _, heads := range sets(9) {
		c := isProve(t, x, m, heads)
		isExpand(t, c)
		isCheck(t, c, roots(m, heads))
		c.Hashes = slices.Repeat(one, len(c.Hashes))
		isExpand(t, c)
		isCheck(t, c, roots(m, heads))
	}
	l = some(4, "leaf")
	l = append(l, node(l[0], l[1]), node(l[2], l[3]), strings.Repeat("\x00", 32), hashOf(""))
	x, m = grown(t, 2, l), modelOf(l)
	for _, heads := range sets(len(l)) {
		c := isProve(t, x, m, heads)
		isExpand(t, c)
		isCheck(t, c, roots(m, heads))
	}
}

// Where layer 7 made no tree, there are no leaves.
func TestNoTree(t *testing.T) {
	none, _ := tile.New(0)
	for _, x := range []*tile.Tree{nil, none, none.Clone(), grown(t, 1, nil)} {
		for _, heads := range append(wrongHeads(), []int{1}, []int{1, 2}, []int{1 << 40}, []int{math.MaxInt}) {
			c, e := chain.Prove(x, heads)
			refused(t, "C2: of no leaves", c, e, api.ErrChainHeads)
		}
	}
}

// full is a tree of as many leaves as there may be, with its model.
var full = sync.OnceValue(func() (all struct {
	tree  *tile.Tree
	model model
}) {
	l := some(api.MaxLeaves, "leaf")
	all.tree, _ = tile.New(8)
	for _, leaf := range l {
		all.tree.Add(leaf)
	}
	all.model = modelOf(l)
	return all
})

func TestFullTree(t *testing.T) {
	if testing.Short() {
		t.Skip("it has 1048576 leaves")
	}
	r := rand.New(rand.NewSource(8))
	x, m := full().tree, full().model
	lists := [][]int{{1}, {1, 1 << 20}, {1<<20 - 1, 1 << 20}, {1 << 19, 1 << 20}, {1<<19 - 1, 1 << 19, 1<<19 + 1, 1<<20 - 1, 1 << 20}, from(1<<20-63, 1, 64), from(1<<14, 1<<14, 64), from(255, 256, 64)}
	for _, k := range []int{2, 3, 10, 64} {
		lists = append(lists, someOf(r, 1<<20, k), someOf(r, 1<<20, k), someOf(r, 1<<17, k))
	}
	for _, heads := range lists {
		c := isProve(t, x, m, heads)
		isExpand(t, c)
		if isCheck(t, c, roots(m, heads)) != api.OK {
			t.Errorf("C5: %v: the model does not take its own", heads)
		}
	}
	for _, heads := range [][]int{{1<<20 + 1}, {1, 1<<20 + 1}, {1 << 20, 1<<20 + 1}, {1 << 40}, from(1<<14, 1<<15, 64)} {
		isProve(t, x, m, heads)
	}
}
