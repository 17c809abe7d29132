package plan_test

import (
	"crypto/sha256"
	"fmt"
	"maps"
	"math/rand"
	"slices"
	"strconv"
	"strings"
	"testing"

	"scrivener/api"
	"scrivener/cache"
	"scrivener/plan"
	"scrivener/tile"
)

// The model takes the words as they stand: it goes down through trees by recursions, keeps a batch as a set, and goes over all asks and all steps for each ask.

func hashOf(text string) string {
	h := sha256.Sum256([]byte(text))
	return string(h[:])
}

func node(left, right string) string { return hashOf("\x01" + left + right) }

// some are n hashes, unlike those of another kind.
func some(n int, kind string) []string {
	l := make([]string, n)
	for i := range l {
		l[i] = hashOf(kind + " " + strconv.Itoa(i))
	}
	return l
}

func at(b, e int) api.Span { return api.Span{Begin: b, End: e} }

// parts are the left and the right one: the left one has the greatest power of two below the span's leaves.
func parts(s api.Span) (api.Span, api.Span) {
	k := 1
	for 2*k < s.End-s.Begin {
		k *= 2
	}
	return at(s.Begin, s.Begin+k), at(s.Begin+k, s.End)
}

// model is a tree: its leaves, and above them, level by level, the nodes of neighbours.
type model struct{ levels [][]string }

func modelOf(leaves []string) model {
	levels := [][]string{leaves}
	for len(leaves) > 1 {
		above := make([]string, len(leaves)/2)
		for i := range above {
			above[i] = node(leaves[2*i], leaves[2*i+1])
		}
		levels, leaves = append(levels, above), above
	}
	return model{levels}
}

func (m model) size() int { return len(m.levels[0]) }

func (m model) hash(s api.Span) string {
	n := s.End - s.Begin
	if n == 0 {
		return hashOf("")
	}
	for level, row := range m.levels {
		if n == 1<<level && s.Begin%n == 0 {
			return row[s.Begin/n]
		}
	}
	left, right := parts(s)
	return node(m.hash(left), m.hash(right))
}

func (m model) hashes(spans []api.Span) []string {
	l := make([]string, len(spans))
	for i, s := range spans {
		l[i] = m.hash(s)
	}
	return l
}

// pathIn, proofIn and manyIn are the spans of which chapter 3's P, S and M are made.
func pathIn(i int, s api.Span) []api.Span {
	if s.End-s.Begin == 1 {
		return nil
	}
	left, right := parts(s)
	if i < left.End {
		return append(pathIn(i, left), right)
	}
	return append(pathIn(i, right), left)
}

func proofIn(m int, s api.Span, whole bool) []api.Span {
	switch {
	case m == s.End-s.Begin && whole:
		return nil
	case m == s.End-s.Begin:
		return []api.Span{s}
	}
	left, right := parts(s)
	if k := left.End - left.Begin; m > k {
		return append(proofIn(m-k, right, false), left)
	}
	return append(proofIn(m, left, whole), right)
}

func manyIn(indices []int, s api.Span) []api.Span {
	switch {
	case !slices.ContainsFunc(indices, func(i int) bool { return s.Begin <= i && i < s.End }):
		return []api.Span{s}
	case s.End-s.Begin == 1:
		return nil
	}
	left, right := parts(s)
	return append(manyIn(indices, left), manyIn(indices, right)...)
}

// chainIn are the spans of chapter 13's chain.
func chainIn(heads []int) []api.Span {
	var l []api.Span
	told := map[api.Span]int{}
	var folds func(s api.Span) bool
	folds = func(s api.Span) bool {
		if told[s] > 0 || s.End-s.Begin == 1 {
			return told[s] > 0
		}
		left, right := parts(s)
		return folds(left) && folds(right)
	}
	for i := 1; i < len(heads); i++ {
		for _, s := range proofIn(heads[i-1], at(0, heads[i]), true) {
			if !folds(s) {
				told[s]++
				l = append(l, s)
			}
		}
	}
	return l
}

// aloneIn are the spans of what an ask that may be answers alone.
func aloneIn(r api.Request) []api.Span {
	switch r.Kind {
	case 3:
		return []api.Span{at(0, r.Size)}
	case 4:
		return pathIn(r.A, at(0, r.Size))
	case 5:
		return proofIn(r.A, at(0, r.Size), true)
	case 6:
		return manyIn(r.List, at(0, r.Size))
	}
	return chainIn(r.List)
}

// hasForm, by its words: a kind and the fields that it may have.
func hasForm(r api.Request) bool {
	if len(r.Entries) != 0 || len(r.Asks) != 0 || r.B != 0 {
		return false
	}
	switch r.Kind {
	case 3:
		return r.A == 0 && len(r.List) == 0
	case 4, 5:
		return len(r.List) == 0
	case 6:
		return r.A == 0
	case 7:
		return r.A == 0 && r.Size == 0
	}
	return false
}

// rises tells whether all are within bounds, each above the one ahead of it, and whether there are 1 to most.
func rises(l []int, least, greatest, most int) bool {
	for i, n := range l {
		if n < least || n > greatest || i > 0 && n <= l[i-1] {
			return false
		}
	}
	return len(l) >= 1 && len(l) <= most
}

// may tells whether an ask may be, of a log of a size.
func may(r api.Request, size int) bool {
	if !hasForm(r) {
		return false
	}
	switch r.Kind {
	case 3:
		return 0 <= r.Size && r.Size <= size
	case 4:
		return 1 <= r.Size && r.Size <= size && 0 <= r.A && r.A <= r.Size-1
	case 5:
		return 1 <= r.Size && r.Size <= size && 1 <= r.A && r.A <= r.Size
	case 6:
		return 1 <= r.Size && r.Size <= size && rises(r.List, 0, r.Size-1, 256)
	}
	return rises(r.List, 1, 1<<40, 64) && r.List[len(r.List)-1] <= size
}

// making is a step while the asks are gone over.
type making struct {
	kind  int // as an ask's; 0 is a row's
	a     int
	size  int
	set   map[int]int // of a batch
	heads []int       // of a chain, of a row
}

// end is the step in the end.
func (s making) end() api.Request {
	switch s.kind {
	case 6:
		indices := slices.Sorted(maps.Keys(s.set))
		if len(indices) == 1 {
			return api.Request{Kind: 4, A: indices[0], Size: s.size}
		}
		return api.Request{Kind: 6, Size: s.size, List: indices}
	case 0:
		if len(s.heads) == 2 {
			return api.Request{Kind: 5, A: s.heads[0], Size: s.heads[1]}
		}
		return api.Request{Kind: 7, List: s.heads}
	}
	return api.Request{Kind: s.kind, A: s.a, Size: s.size, List: s.heads}
}

// beside tells whether two numbers are neighbours in a list.
func beside(l []int, a, b int) bool {
	i := slices.Index(l, a)
	return i >= 0 && i+1 < len(l) && l[i+1] == b
}

// goesTo is where an ask goes, among all asks and the steps that there are; or the step that is to be made. What it brings to a step is put there.
func goesTo(r api.Request, asks []api.Request, steps []making) (int, making) {
	switch {
	case r.Kind == 4 || r.Kind == 6:
		wants := making{kind: 6, size: r.Size, set: map[int]int{}}
		for _, i := range r.List {
			wants.set[i]++
		}
		if r.Kind == 4 {
			wants.set[r.A]++
		}
		for i := len(steps) - 1; i >= 0; i-- {
			if steps[i].kind != 6 || steps[i].size != r.Size {
				continue
			}
			both := maps.Clone(steps[i].set)
			maps.Copy(both, wants.set)
			if len(both) > 256 {
				break
			}
			steps[i].set = both
			return i, making{}
		}
		return -1, wants
	case r.Kind == 5 && r.A != r.Size:
		return pairGoesTo(r, asks, steps)
	}
	for i, s := range steps {
		if s.kind == r.Kind && s.a == r.A && s.size == r.Size && slices.Equal(s.heads, r.List) {
			return i, making{}
		}
	}
	return -1, making{kind: r.Kind, a: r.A, size: r.Size, heads: slices.Clone(r.List)}
}

func pairGoesTo(r api.Request, asks []api.Request, steps []making) (int, making) {
	for _, other := range asks {
		if other.Kind == 7 && beside(other.List, r.A, r.Size) {
			return goesTo(other, asks, steps)
		}
	}
	for i, s := range steps {
		if s.kind == 0 && beside(s.heads, r.A, r.Size) {
			return i, making{}
		}
	}
	for i, s := range steps {
		if s.kind == 0 && s.heads[len(s.heads)-1] == r.A && len(s.heads) < 64 {
			steps[i].heads = append(s.heads, r.Size)
			return i, making{}
		}
	}
	return -1, making{heads: []int{r.A, r.Size}}
}

// slowSteps are the steps of asks that may be.
func slowSteps(asks []api.Request) api.Plan {
	var steps []making
	var p api.Plan
	for _, r := range asks {
		i, made := goesTo(r, asks, steps)
		if i < 0 {
			i, steps = len(steps), append(steps, made)
		}
		p.Of = append(p.Of, i)
	}
	for _, s := range steps {
		p.Steps = append(p.Steps, s.end())
	}
	return p
}

func slowMake(asks []api.Request, size int) (api.Plan, api.Errno) {
	switch {
	case len(asks) == 0 || len(asks) > 64:
		return api.Plan{}, api.ErrPlanMany
	case size < 0 || size > 1<<40:
		return api.Plan{}, api.ErrArg
	}
	for _, r := range asks {
		if !may(r, size) {
			return api.Plan{}, api.ErrPlanAsk
		}
	}
	return slowSteps(asks), api.OK
}

// slowCount is how many hashes all answer, each alone.
func slowCount(all []api.Request) int {
	n := 0
	for _, r := range all {
		n += len(aloneIn(r))
	}
	return n
}

// digits are those of a number, as chapter 2 has them.
func digits(n int) string {
	s := ""
	for n >= 128 {
		s += string([]byte{byte(n%128 + 128)})
		n /= 128
	}
	return s + string([]byte{byte(n)})
}

// slowKey is a step's, by its words.
func slowKey(r api.Request) string {
	s := string([]byte{byte(r.Kind)})
	if r.Kind == 4 || r.Kind == 5 {
		s += digits(r.A)
	}
	if r.Kind != 7 {
		s += digits(r.Size)
	}
	if r.Kind == 6 || r.Kind == 7 {
		s += digits(len(r.List))
		for i, n := range r.List {
			if i > 0 {
				n -= r.List[i-1] + 1
			}
			s += digits(n)
		}
	}
	return s
}

// slowRun answers each ask alone; it makes, of a cache of its own, the calls that L4 names.
func slowRun(m model, c *cache.Cache, asks []api.Request) ([]api.Reply, api.Errno) {
	if len(asks) == 0 || len(asks) > 64 {
		return nil, api.ErrPlanMany
	}
	var there []api.Request
	var replies []api.Reply
	for _, r := range asks {
		if !hasForm(r) {
			return nil, api.ErrPlanAsk
		}
		if !may(r, m.size()) {
			replies = append(replies, api.Reply{Status: api.NotThere})
			continue
		}
		there = append(there, r)
		hashes := m.hashes(aloneIn(r))
		if r.Kind == 3 {
			replies = append(replies, api.Reply{Root: hashes[0]})
		} else {
			replies = append(replies, api.Reply{Hashes: hashes})
		}
	}
	for _, s := range slowSteps(there).Steps {
		if _, ok := c.Get(slowKey(s)); !ok {
			c.Put(slowKey(s), strings.Join(m.hashes(aloneIn(s)), ""))
		}
	}
	return replies, api.OK
}

func sameRequest(a, b api.Request) bool {
	return a.Kind == b.Kind && a.A == b.A && a.B == b.B && a.Size == b.Size && slices.Equal(a.List, b.List) && slices.Equal(a.Entries, b.Entries) && slices.EqualFunc(a.Asks, b.Asks, sameRequest)
}

func sameReply(a, b api.Reply) bool {
	return a.Status == b.Status && a.Size == b.Size && a.A == b.A && a.B == b.B && a.Root == b.Root && slices.Equal(a.Hashes, b.Hashes) && len(a.Entries) == len(b.Entries) && len(a.Replies) == len(b.Replies)
}

func samePlan(a, b api.Plan) bool {
	return slices.EqualFunc(a.Steps, b.Steps, sameRequest) && slices.Equal(a.Of, b.Of)
}

// isMake holds Make, Hashes and Saving to the model, and tells the plan.
func isMake(t *testing.T, asks []api.Request, size int) api.Plan {
	t.Helper()
	want, wantE := slowMake(asks, size)
	p, e := plan.Make(asks, size)
	if !samePlan(p, want) || e != wantE {
		t.Errorf("L1: Make(%s, %d): %s of %v, %d, want %s of %v, %d", lines(asks), size, lines(p.Steps), p.Of, e, lines(want.Steps), want.Of, wantE)
	}
	alone, together, saving := 0, 0, float32(0)
	if wantE == api.OK {
		alone, together = slowCount(asks), slowCount(want.Steps)
	}
	if alone > 0 {
		saving = float32(alone-together) / float32(alone)
	}
	if a, b, e := plan.Hashes(asks, size); a != alone || b != together || e != wantE {
		t.Errorf("L2: Hashes(%s, %d): %d, %d, %d, want %d, %d, %d", lines(asks), size, a, b, e, alone, together, wantE)
	}
	if s, e := plan.Saving(asks, size); s != saving || e != wantE {
		t.Errorf("L2: Saving(%s, %d): %v, %d, want %v, %d", lines(asks), size, s, e, saving, wantE)
	}
	return p
}

// lines are some asks, as one reads them, if they are not too many.
func lines(asks []api.Request) string {
	if s := fmt.Sprint(asks); len(s) < 2000 {
		return s
	}
	return strconv.Itoa(len(asks)) + " asks"
}

// served is a tree and a cache, and their models.
type served struct {
	*testing.T
	x       *tile.Tree
	m       model
	c, want *cache.Cache
}

// serve makes one, of some leaves.
func serve(t *testing.T, height, budget int, leaves []string) *served {
	t.Helper()
	s := &served{T: t, x: grown(t, height, leaves), m: modelOf(leaves)}
	s.c, s.want = empty(t, budget), empty(t, budget)
	return s
}

// grow lets the tree grow to some leaves, of which it has the first ones.
func (s *served) grow(leaves []string) {
	s.Helper()
	adds(s.T, s.x, leaves[s.x.Size():])
	s.m = modelOf(leaves)
}

// run holds Run to the model, and the cache to its model's; it tells the replies.
func (s *served) run(asks ...api.Request) []api.Reply {
	s.Helper()
	want, wantE := slowRun(s.m, s.want, asks)
	replies, e := plan.Run(s.x, s.c, asks)
	if !slices.EqualFunc(replies, want, sameReply) || e != wantE {
		s.Errorf("L3, L5: of %d leaves: Run(%s): %x, %d, want %x, %d", s.m.size(), lines(asks), replies, e, want, wantE)
	}
	if a, b := s.c.Tally(), s.want.Tally(); a != b || !slices.Equal(s.c.Keys(), s.want.Keys()) {
		s.Errorf("L4: Run(%s): the cache has %+v, %q, want %+v, %q", lines(asks), a, s.c.Keys(), b, s.want.Keys())
	}
	return replies
}

// values holds all that the cache has to what its model has. It uses them, the one used least lately first, so that they are in the order in which they were.
func (s *served) values() {
	s.Helper()
	keys := s.c.Keys()
	for _, key := range slices.Backward(keys) {
		a, _ := s.c.Get(key)
		b, _ := s.want.Get(key)
		if a != b {
			s.Errorf("L4: under %q stands %x, want %x", key, a, b)
		}
	}
	if !slices.Equal(s.c.Keys(), keys) || !slices.Equal(s.want.Keys(), keys) {
		s.Errorf("layer 15: the order is another one")
	}
}

func empty(t *testing.T, budget int) *cache.Cache {
	t.Helper()
	c, e := cache.New(budget)
	if e != api.OK {
		t.Fatalf("layer 15: New(%d): %d", budget, e)
	}
	return c
}

// grown is a tree of tiles with some leaves.
func grown(t *testing.T, height int, leaves []string) *tile.Tree {
	t.Helper()
	x, e := tile.New(height)
	if x == nil || e != api.OK {
		t.Fatalf("layer 7: New(%d): %d", height, e)
	}
	adds(t, x, leaves)
	return x
}

func adds(t *testing.T, x *tile.Tree, leaves []string) {
	t.Helper()
	for i, leaf := range leaves {
		if e := x.Add(leaf); e != api.OK {
			t.Fatalf("layer 7: Add of leaf %d: %d", i, e)
		}
	}
}

func rootOf(n int) api.Request { return api.Request{Kind: api.AskRoot, Size: n} }

func leafOf(i, n int) api.Request { return api.Request{Kind: api.AskInclusion, A: i, Size: n} }

func pairOf(m, n int) api.Request { return api.Request{Kind: api.AskConsistency, A: m, Size: n} }

func batchOf(n int, l ...int) api.Request {
	return api.Request{Kind: api.AskBatch, Size: n, List: l}
}

func chainOf(l ...int) api.Request { return api.Request{Kind: api.AskChain, List: l} }

// from are k numbers that rise, by steps.
func from(first, step, k int) []int {
	l := make([]int, k)
	for i := range l {
		l[i] = first + i*step
	}
	return l
}

// someOf are up to k of the numbers from first on, n of them, rising.
func someOf(r *rand.Rand, first, n, k int) []int {
	in := map[int]int{}
	for range k {
		in[first+r.Intn(n)] = 1
	}
	return slices.Sorted(maps.Keys(in))
}

// group are asks of a log of a size, of few sizes and few heads among them, so that many can be put together.
func group(r *rand.Rand, size, many int) []api.Request {
	sizes := someOf(r, 1, size, 1+r.Intn(6))
	of := func() int { return sizes[r.Intn(len(sizes))] }
	l := make([]api.Request, many)
	for i := range l {
		n, m := of(), of()
		switch r.Intn(6) {
		case 0:
			l[i] = rootOf(r.Intn(2) * n)
		case 1:
			l[i] = leafOf(r.Intn(n), n)
		case 2:
			l[i] = batchOf(n, someOf(r, 0, n, 1+r.Intn(min(n, 9)))...)
		case 3:
			l[i] = chainOf(sizes[r.Intn(len(sizes)):]...)
			if r.Intn(2) == 0 {
				l[i] = chainOf(someOf(r, 1, size, 1+r.Intn(min(size, 5)))...)
			}
		default:
			l[i] = pairOf(min(n, m), max(n, m))
		}
	}
	return l
}

// everyAsk is all that may be asked of a log of a small size.
func everyAsk(size int) []api.Request {
	all := []api.Request{rootOf(0)}
	for n := 1; n <= size; n++ {
		all = append(all, rootOf(n))
		for i := range n {
			all = append(all, leafOf(i, n), pairOf(i+1, n))
		}
		for _, set := range sets(n) {
			all = append(all, batchOf(n, set...))
		}
	}
	for _, set := range sets(size) {
		for i := range set {
			set[i]++
		}
		all = append(all, chainOf(set...))
	}
	return all
}

// sets are all lists of numbers below n that rise, but the empty one.
func sets(n int) [][]int {
	var all [][]int
	for set := 1; set < 1<<n; set++ {
		var l []int
		for i := range n {
			if set>>i&1 == 1 {
				l = append(l, i)
			}
		}
		all = append(all, l)
	}
	return all
}
