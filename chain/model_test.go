package chain_test

import (
	"crypto/sha256"
	"math"
	"math/rand"
	"slices"
	"strconv"
	"testing"

	"scrivener/api"
	"scrivener/chain"
	"scrivener/tile"
)

// The model takes the words as they stand: it goes down through trees by a recursion, and over the pairs one by one, with a list of what was told up to then.

func hashOf(text string) string {
	h := sha256.Sum256([]byte(text))
	return string(h[:])
}

func node(left, right string) string { return hashOf("\x01" + left + right) }

// some are n hashes, unlike those of another kind.
func some(n int, kind string) []string {
	l := make([]string, n)
	for i := range l {
		l[i] = hashOf(kind + " " + strconv.Itoa(i))
	}
	return l
}

func at(b, e int) api.Span { return api.Span{Begin: b, End: e} }

// half is the greatest power of two below n.
func half(n int) int {
	k := 1
	for 2*k < n {
		k *= 2
	}
	return k
}

// parts are the left and the right one.
func parts(s api.Span) (api.Span, api.Span) {
	middle := s.Begin + half(s.End-s.Begin)
	return at(s.Begin, middle), at(middle, s.End)
}

// hasher is a tree that tells the hash of each span.
type hasher interface{ hash(s api.Span) string }

// model has the leaves of a tree, and above them, level by level, the nodes of neighbours, so that a great tree's spans are told soon.
type model struct{ levels [][]string }

func modelOf(leaves []string) model {
	levels := [][]string{leaves}
	for len(leaves) > 1 {
		above := make([]string, len(leaves)/2)
		for i := range above {
			above[i] = node(leaves[2*i], leaves[2*i+1])
		}
		levels, leaves = append(levels, above), above
	}
	return model{levels}
}

func (m model) size() int { return len(m.levels[0]) }

func (m model) hash(s api.Span) string {
	n := s.End - s.Begin
	for level, row := range m.levels {
		if n == 1<<level && s.Begin%n == 0 {
			return row[s.Begin/n]
		}
	}
	left, right := parts(s)
	return node(m.hash(left), m.hash(right))
}

// vast is a tree of 2^40 leaves, which are all the same but for some.
type vast struct {
	others map[int]string
	even   []string // by their levels, of complete subtrees without others
	known  map[api.Span]string
}

func vastOf(others []int, kind string) vast {
	x := vast{map[int]string{}, []string{hashOf("the same")}, map[api.Span]string{}}
	for _, i := range others {
		x.others[i] = hashOf(kind + " " + strconv.Itoa(i))
	}
	for level := range 40 {
		x.even = append(x.even, node(x.even[level], x.even[level]))
	}
	return x
}

func (x vast) hash(s api.Span) string {
	n, none := s.End-s.Begin, true
	for i := range x.others {
		none = none && (i < s.Begin || i >= s.End)
	}
	for level, hash := range x.even {
		if none && n == 1<<level {
			return hash
		}
	}
	if n == 1 {
		return x.others[s.Begin]
	}
	if _, ok := x.known[s]; !ok {
		left, right := parts(s)
		x.known[s] = node(x.hash(left), x.hash(right))
	}
	return x.known[s]
}

// roots are those of a tree at some heads.
func roots(x hasher, heads []int) []string {
	var l []string
	for _, n := range heads {
		l = append(l, x.hash(at(0, n)))
	}
	return l
}

// proofIn is the spans of the proof that the first m leaves of a span are its beginning, as chapter 11 has it.
func proofIn(m int, s api.Span, whole bool) []api.Span {
	switch {
	case m == s.End-s.Begin && whole:
		return nil
	case m == s.End-s.Begin:
		return []api.Span{s}
	}
	left, right := parts(s)
	if k := left.End - left.Begin; m > k {
		return append(proofIn(m-k, right, false), left)
	}
	return append(proofIn(m, left, whole), right)
}

// proof is the hashes of these, of a whole tree.
func proof(x hasher, first, second int) []string {
	var l []string
	for _, s := range proofIn(first, at(0, second), true) {
		l = append(l, x.hash(s))
	}
	return l
}

// headsMayBe, by their words.
func headsMayBe(heads []int) bool {
	for i, n := range heads {
		if n <= 0 || n > 1<<40 || i > 0 && n <= heads[i-1] {
			return false
		}
	}
	return len(heads) >= 1 && len(heads) <= 64
}

// telling is what was told up to now.
type telling struct {
	spans  []api.Span
	hashes []string
}

// fold is the hash of a span, if it can be folded.
func (x *telling) fold(s api.Span) (string, bool) {
	if i := slices.Index(x.spans, s); i >= 0 {
		return x.hashes[i], true
	}
	if s.End-s.Begin == 1 {
		return "", false
	}
	left, right := parts(s)
	a, ok := x.fold(left)
	if !ok {
		return "", false
	}
	b, ok := x.fold(right)
	if !ok {
		return "", false
	}
	return node(a, b), true
}

// walk goes over all pairs, with heads that may be, and asks for the hash of each span that is told; it tells the proofs.
func (x *telling) walk(heads []int, tell func(s api.Span) string) [][]string {
	var proofs [][]string
	for i := 1; i < len(heads); i++ {
		var l []string
		for _, s := range proofIn(heads[i-1], at(0, heads[i]), true) {
			hash, ok := x.fold(s)
			if !ok {
				hash = tell(s)
				x.spans, x.hashes = append(x.spans, s), append(x.hashes, hash)
			}
			l = append(l, hash)
		}
		proofs = append(proofs, l)
	}
	return proofs
}

func slowNodes(heads []int) ([]api.Span, api.Errno) {
	if !headsMayBe(heads) {
		return nil, api.ErrChainHeads
	}
	var x telling
	x.walk(heads, func(api.Span) string { return "any" })
	return x.spans, api.OK
}

// slowProve makes the chain of a tree of a size.
func slowProve(x hasher, size int, heads []int) (api.Chain, api.Errno) {
	if !headsMayBe(heads) || heads[len(heads)-1] > size {
		return api.Chain{}, api.ErrChainHeads
	}
	var told telling
	told.walk(heads, x.hash)
	return api.Chain{Heads: heads, Hashes: told.hashes}, api.OK
}

func slowExpand(c api.Chain) ([][]string, api.Errno) {
	spans, e := slowNodes(c.Heads)
	if e != api.OK {
		return nil, e
	}
	if len(c.Hashes) != len(spans) || slices.ContainsFunc(c.Hashes, func(h string) bool { return len(h) != 32 }) {
		return nil, api.ErrChainForm
	}
	var x telling
	return x.walk(c.Heads, func(api.Span) string { return c.Hashes[len(x.spans)] }), api.OK
}

// leadsTo is the old and the new root to which the proof of a pair leads, taken apart from the top: of the first m leaves of a span, and of the span. What a whole beginning has, old tells.
func leadsTo(m int, s api.Span, whole bool, old string, l []string) (string, string) {
	switch {
	case m == s.End-s.Begin && whole:
		return old, old
	case m == s.End-s.Begin:
		return l[0], l[0]
	}
	left, right := parts(s)
	last, l := l[len(l)-1], l[:len(l)-1]
	if k := left.End - left.Begin; m > k {
		a, b := leadsTo(m-k, right, false, old, l)
		return node(last, a), node(last, b)
	}
	a, b := leadsTo(m, left, whole, old, l)
	return a, node(b, last)
}

func slowCheck(c api.Chain, roots []string) api.Errno {
	proofs, e := slowExpand(c)
	switch {
	case e != api.OK:
		return e
	case len(roots) != len(c.Heads) || slices.ContainsFunc(roots, func(h string) bool { return len(h) != 32 }):
		return api.ErrChainForm
	}
	for i, l := range proofs {
		a, b := leadsTo(c.Heads[i], at(0, c.Heads[i+1]), true, roots[i], l)
		if a != roots[i] || b != roots[i+1] {
			return api.ErrChainRoot
		}
	}
	return api.OK
}

func sameProofs(a, b [][]string) bool { return slices.EqualFunc(a, b, slices.Equal) }

func sameChain(a, b api.Chain) bool {
	return slices.Equal(a.Heads, b.Heads) && slices.Equal(a.Hashes, b.Hashes)
}

// grown is a tree of tiles with some leaves.
func grown(t *testing.T, height int, leaves []string) *tile.Tree {
	t.Helper()
	x, e := tile.New(height)
	if x == nil || e != api.OK {
		t.Fatalf("layer 7: New(%d): %d", height, e)
	}
	adds(t, x, leaves)
	return x
}

func adds(t *testing.T, x *tile.Tree, leaves []string) {
	t.Helper()
	for i, leaf := range leaves {
		if e := x.Add(leaf); e != api.OK {
			t.Fatalf("layer 7: Add of leaf %d: %d", i, e)
		}
	}
}

// isNodes tells the spans, too.
func isNodes(t *testing.T, heads []int) []api.Span {
	t.Helper()
	want, wantE := slowNodes(heads)
	spans, e := chain.Nodes(heads)
	if !slices.Equal(spans, want) || e != wantE {
		t.Errorf("C1: Nodes(%v): %v, %d, want %v, %d", heads, spans, e, want, wantE)
	}
	return spans
}

// isProve tells the chain, too.
func isProve(t *testing.T, x *tile.Tree, m model, heads []int) api.Chain {
	t.Helper()
	want, wantE := slowProve(m, m.size(), heads)
	c, e := chain.Prove(x, heads)
	if !sameChain(c, want) || e != wantE {
		t.Errorf("C2: of %d leaves: Prove(%v): %x, %d, want %x, %d", m.size(), heads, c, e, want, wantE)
	}
	return c
}

// isExpand tells the proofs, too.
func isExpand(t *testing.T, c api.Chain) [][]string {
	t.Helper()
	want, wantE := slowExpand(c)
	proofs, e := chain.Expand(c)
	if !sameProofs(proofs, want) || e != wantE {
		t.Errorf("C3: Expand of %v and %d hashes: %x, %d, want %x, %d", c.Heads, len(c.Hashes), proofs, e, want, wantE)
	}
	return proofs
}

// isCheck tells the answer, too.
func isCheck(t *testing.T, c api.Chain, roots []string) api.Errno {
	t.Helper()
	want := slowCheck(c, roots)
	if e := chain.Check(c, roots); e != want {
		t.Errorf("C4: Check of %v and %d hashes with %d roots: %d, want %d", c.Heads, len(c.Hashes), len(roots), e, want)
	}
	return want
}

// sets are all lists of numbers of 1 to n that rise, but the empty one.
func sets(n int) [][]int {
	var all [][]int
	for set := 1; set < 1<<n; set++ {
		var l []int
		for i := range n {
			if set>>i&1 == 1 {
				l = append(l, i+1)
			}
		}
		all = append(all, l)
	}
	return all
}

// from are k numbers that rise, by steps.
func from(first, step, k int) []int {
	l := make([]int, k)
	for i := range l {
		l[i] = first + i*step
	}
	return l
}

// someOf are k numbers of 1 to n that rise (fewer, if there are not so many), now all over, now crowded.
func someOf(r *rand.Rand, n, k int) []int {
	first, width := 1, n
	if r.Intn(2) == 0 {
		width = min(n, k+r.Intn(3*k))
		first += r.Intn(n - width + 1)
	}
	in := map[int]int{}
	for len(in) < min(k, width) {
		in[first+r.Intn(width)] = 1
	}
	var l []int
	for i := range in {
		l = append(l, i)
	}
	slices.Sort(l)
	return l
}

// about are numbers beside the powers of two, up to the greatest size, k of them that rise.
func about(r *rand.Rand, k int) []int {
	in := map[int]int{}
	for len(in) < k {
		n := 1<<r.Intn(41) + r.Intn(5) - 2
		if r.Intn(3) == 0 {
			n += 1 << r.Intn(41)
		}
		if n >= 1 && n <= 1<<40 {
			in[n] = 1
		}
	}
	var l []int
	for i := range in {
		l = append(l, i)
	}
	slices.Sort(l)
	return l
}

// greatLists are heads up to the greatest one: few and many, crowded, far apart, beside the powers of two.
func greatLists(r *rand.Rand) [][]int {
	lists := [][]int{
		{1 << 40}, {1, 1 << 40}, {1<<40 - 1, 1 << 40}, {1 << 39, 1 << 40}, {1<<39 - 1, 1 << 39, 1<<39 + 1, 1<<40 - 1, 1 << 40}, {1, 2, 1<<40 - 2, 1<<40 - 1, 1 << 40},
		from(1<<40-63, 1, 64), from(1<<39-31, 1, 64), from(0x5555555555, 1, 64), from(1<<34, 1<<34, 64), from(1<<34-1, 1<<34, 64), from(1, 1<<33+12345, 64),
	}
	var powers []int
	for i := range 41 {
		powers = append(powers, 1<<i)
	}
	lists = append(lists, powers)
	for i := range 41 {
		if i > 2 {
			lists = append(lists, []int{1<<i - 1, 1 << i}, []int{1<<i - 2, 1<<i - 1, 1 << i}, []int{3, 1<<i - 1, 1 << i})
		}
		lists = append(lists, about(r, 2+i%9))
	}
	for _, k := range []int{1, 2, 3, 5, 9, 17, 63, 64} {
		lists = append(lists, someOf(r, 1<<40, k), someOf(r, 1<<(10+r.Intn(30)), k), about(r, k))
	}
	return lists
}

// wrongHeads may not be: none, too many, falling, the same twice, nought and below, too great.
func wrongHeads() [][]int {
	late, twice, nought := from(1, 1, 64), from(1, 1, 64), from(0, 1, 64)
	late[63], twice[63] = 1<<40+1, 63
	return [][]int{
		nil, {}, {0}, {-1}, {0, 1}, {-1, 1}, {-5, -4}, {2, 2}, {1, 1}, {3, 2}, {1, 3, 2}, {1, 2, 2}, {2, 1, 3}, {1, 0}, {1, 2, 0}, {1, 2, -1}, {1, 0, 2}, {5, 0, 7},
		{1<<40 + 1}, {1, 1<<40 + 1}, {1 << 40, 1<<40 + 1}, {1 << 40, 1 << 40}, {1<<40 + 1, 1<<40 + 2}, {1<<40 + 1, 2}, {1, 1 << 41}, {1, 1 << 62},
		{math.MaxInt}, {math.MinInt}, {math.MinInt, 1}, {1, math.MaxInt}, {1, math.MinInt}, {math.MinInt, math.MaxInt}, {math.MaxInt, math.MinInt}, {1, math.MaxInt, 2}, {1, math.MinInt, 2},
		from(1, 1, 65), from(1, 1, 66), from(1, 1, 200), from(0, 1, 65), from(65, -1, 65), from(64, -1, 64), slices.Repeat([]int{1}, 64), slices.Repeat([]int{7}, 65), late, twice, nought, from(1<<40-62, 1, 64),
	}
}
