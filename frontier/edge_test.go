package frontier_test

import (
	"math"
	"math/rand"
	"slices"
	"testing"

	"scrivener/api"
	"scrivener/digest"
	"scrivener/frontier"
)

// edgeIs holds an edge to what it should tell.
func edgeIs(t *testing.T, what string, e *frontier.Edge, size int, nodes []string) {
	t.Helper()
	if e == nil {
		t.Fatalf("%s: no edge", what)
	}
	if e.Size() != size {
		t.Errorf("%s: Size: %d, not %d", what, e.Size(), size)
	}
	if !slices.Equal(e.Nodes(), nodes) {
		t.Errorf("%s: of %d leaves: Nodes: %x, not %x", what, size, e.Nodes(), nodes)
	}
	if e.Root() != slowRoot(nodes) {
		t.Errorf("%s: of %d leaves: Root: %x", what, size, e.Root())
	}
}

func load(t *testing.T, size int, nodes []string) *frontier.Edge {
	t.Helper()
	e, err := frontier.Load(size, nodes)
	if err != api.OK {
		t.Fatalf("F1: Load(%d, %d nodes): %d", size, len(nodes), err)
	}
	return e
}

func TestNew(t *testing.T) {
	e := frontier.New()
	edgeIs(t, "F1: New", e, 0, nil)
	if e.Root() != digest.Empty() {
		t.Errorf("F2: Root of no leaves: %x", e.Root())
	}
	var zero frontier.Edge
	edgeIs(t, "the zero value", &zero, 0, nil)
	zero.Add(hashOf("leaf"))
	edgeIs(t, "the zero value", &zero, 1, []string{hashOf("leaf")})
}

func TestEdgeExample(t *testing.T) {
	l := some(4, "leaf")
	a, b, c, d := l[0], l[1], l[2], l[3]
	e := frontier.New()
	for _, leaf := range l[:3] {
		e.Add(leaf)
	}
	edgeIs(t, "example 1", e, 3, []string{node(a, b), c})
	if e.Root() != node(node(a, b), c) {
		t.Errorf("example 1: Root: %x", e.Root())
	}
	e = load(t, 3, []string{node(a, b), c})
	if err := e.Add(d); err != api.OK {
		t.Errorf("example 1: Add: %d", err)
	}
	edgeIs(t, "example 1", e, 4, []string{node(node(a, b), node(c, d))})
	if e, err := frontier.Load(3, l[:1]); e != nil || err != api.ErrFrontForm {
		t.Errorf("example 1: Load of one node: an edge: %t, %d", e != nil, err)
	}
}

func TestAdd(t *testing.T) {
	l := some(300, "leaf")
	e := frontier.New()
	for i, leaf := range l {
		if err := e.Add(leaf); err != api.OK {
			t.Fatalf("F2: Add of leaf %d: %d", i, err)
		}
		edgeIs(t, "F2: Add", e, i+1, slowCompact(0, l[:i+1]).Hashes)
	}
}

func TestAddWrong(t *testing.T) {
	for _, size := range []int{0, 1, 3, 4, 7, api.MaxSize - 1, api.MaxSize} {
		nodes := made(0, size, "node").Hashes
		e := load(t, size, nodes)
		for _, n := range []int{0, 1, 31, 33, 64} {
			if err := e.Add(string(make([]byte, n))); err != api.ErrFrontHash {
				t.Errorf("F2: Add of %d bytes to %d leaves: %d", n, size, err)
			}
		}
		edgeIs(t, "R1: Add of no hash", e, size, nodes)
	}
}

func TestLastLeaf(t *testing.T) {
	leaf := hashOf("leaf")
	for less := 1; less <= 5; less++ {
		r := made(0, api.MaxSize-less, "node")
		e := load(t, r.End, r.Hashes)
		for i := range less {
			if err := e.Add(leaf); err != api.OK {
				t.Fatalf("F2: Add to 2^40 less %d leaves: %d", less-i, err)
			}
			r = slowJoin(r, api.Range{Begin: r.End, End: r.End + 1, Hashes: []string{leaf}})
			edgeIs(t, "F2: Add near the bound", e, r.End, r.Hashes)
		}
		for range 2 {
			if err := e.Add(leaf); err != api.ErrFrontLast {
				t.Errorf("F2: Add to 2^40 leaves: %d", err)
			}
			edgeIs(t, "R1: Add behind the last", e, api.MaxSize, r.Hashes)
		}
	}
}

func TestLoad(t *testing.T) {
	for _, size := range greatPlaces(rand.New(rand.NewSource(1))) {
		right := made(0, size, "node").Hashes
		edgeIs(t, "F1: Load", load(t, size, right), size, right)
		for n := range 45 {
			if n == len(right) {
				continue
			}
			refuseLoad(t, size, some(n, "node"), api.ErrFrontForm)
			if n > 0 {
				refuseLoad(t, size, append(some(n-1, "node"), "odd"), api.ErrFrontForm)
			}
		}
		if n := len(right); n > 0 {
			refuseLoad(t, size, append(some(n-1, "node"), "odd"), api.ErrFrontHash)
		}
	}
}

func refuseLoad(t *testing.T, size int, nodes []string, want api.Errno) {
	t.Helper()
	if e, err := frontier.Load(size, nodes); e != nil || err != want {
		t.Errorf("F1: Load(%d, %d nodes): an edge: %t, %d, want %d", size, len(nodes), e != nil, err, want)
	}
}

func TestLoadOfOtherSizes(t *testing.T) {
	for _, size := range []int{math.MinInt, math.MinInt + 1, -api.MaxSize, -1, api.MaxSize + 1, 2 * api.MaxSize, math.MaxInt - 1, math.MaxInt} {
		for _, l := range [][]string{nil, some(1, "node"), some(2, "node"), some(64, "node"), {"odd"}} {
			refuseLoad(t, size, l, api.ErrArg)
		}
	}
}

func TestLoadOfOddHashes(t *testing.T) {
	for _, n := range []int{0, 1, 31, 33, 64, 1000} {
		for at := range 5 {
			nodes := some(5, "node")
			nodes[at] = string(make([]byte, n))
			refuseLoad(t, 31, nodes, api.ErrFrontHash)
		}
	}
}

// What Load tells beside an error is no edge; the calls on it do not panic.
func TestNoEdge(t *testing.T) {
	none, err := frontier.Load(-1, nil)
	if none != nil || err != api.ErrArg {
		t.Fatalf("F1: Load(-1): an edge: %t, %d", none != nil, err)
	}
	for range 2 {
		if none.Size() != 0 || len(none.Nodes()) != 0 || none.Root() != digest.Empty() {
			t.Error("R1: no edge has leaves")
		}
		if err := none.Add("odd"); err != api.ErrFrontHash {
			t.Errorf("R1: Add of no hash to no edge: %d", err)
		}
		if err := none.Add(hashOf("leaf")); err != api.ErrArg {
			t.Errorf("R1: Add to no edge: %d", err)
		}
	}
	c := none.Clone()
	edgeIs(t, "R1: Clone of no edge", c, 0, nil)
	c.Add(hashOf("leaf"))
	edgeIs(t, "R1: Clone of no edge", c, 1, []string{hashOf("leaf")})
}
