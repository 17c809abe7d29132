package frontier_test

import (
	"math/rand"
	"slices"
	"sync"
	"testing"

	"scrivener/api"
	"scrivener/frontier"
)

// withRoom is a list in the midst of longer memory, and that memory.
func withRoom(l []string) (list, memory []string) {
	memory = append(append([]string{"ahead"}, l...), some(100, "room")...)
	return memory[1 : 1+len(l)], memory
}

// overwrite writes into a list and all its spare room.
func overwrite(l []string) {
	l = l[:cap(l)]
	for i := range l {
		l[i] = "over"
	}
}

func TestListsHandedIn(t *testing.T) {
	for end := range 40 {
		for middle := range end + 1 {
			left, leftMemory := withRoom(made(0, middle, "left").Hashes)
			right, rightMemory := withRoom(made(middle, end, "right").Hashes)
			leaves, leavesMemory := withRoom(some(end, "leaf"))
			was := slices.Concat(leftMemory, rightMemory, leavesMemory)
			a, b := api.Range{Begin: 0, End: middle, Hashes: left}, api.Range{Begin: middle, End: end, Hashes: right}
			frontier.Join(a, b)
			frontier.Join(b, a)
			frontier.RootOf(a)
			frontier.Compact(middle, leaves)
			edge, _ := frontier.Load(middle, left)
			for range 9 {
				edge.Add(hashOf("more"))
			}
			if !slices.Equal(slices.Concat(leftMemory, rightMemory, leavesMemory), was) {
				t.Fatalf("R2: lists of [0, %d) and [%d, %d) were written into", middle, middle, end)
			}
		}
	}
}

func TestListsAreNotKept(t *testing.T) {
	for n := range 40 {
		nodes := made(0, n, "node").Hashes
		want := slices.Clone(nodes)
		edge := load(t, n, nodes)
		overwrite(nodes)
		edgeIs(t, "R2: Load keeps the list", edge, n, want)
		overwrite(edge.Nodes())
		edgeIs(t, "R2: Nodes hands out the list", edge, n, want)
	}
}

// What came out is overwritten, then what was handed in: neither is the other.
func TestRangesAreNew(t *testing.T) {
	for end := range 24 {
		for middle := range end + 1 {
			a, b := made(0, middle, "left"), made(middle, end, "right")
			wantA, wantB := slices.Clone(a.Hashes), slices.Clone(b.Hashes)
			first, second := join(t, a, b), join(t, a, b)
			want := slowJoin(a, b)
			overwrite(first.Hashes)
			if !slices.Equal(a.Hashes, wantA) || !slices.Equal(b.Hashes, wantB) {
				t.Fatalf("R2: Join of [0, %d) and [%d, %d) hands out what was handed in", middle, middle, end)
			}
			overwrite(a.Hashes)
			overwrite(b.Hashes)
			rangeIs(t, "R2: Join", second, api.OK, want)

			leaves := some(end-middle, "leaf")
			wantLeaves := slices.Clone(leaves)
			first, second = compact(t, middle, leaves), compact(t, middle, leaves)
			overwrite(first.Hashes)
			if !slices.Equal(leaves, wantLeaves) {
				t.Fatalf("R2: Compact of [%d, %d) hands out what was handed in", middle, end)
			}
			overwrite(leaves)
			rangeIs(t, "R2: Compact", second, api.OK, slowCompact(middle, wantLeaves))
		}
	}
}

// edgeModel is an edge, and all leaves that it should have taken.
type edgeModel struct {
	edge   *frontier.Edge
	leaves []string
}

func TestEdgesDoNotDisturb(t *testing.T) {
	r := rand.New(rand.NewSource(8))
	for range 60 {
		models := []edgeModel{{frontier.New(), nil}}
		for range 150 {
			m := &models[r.Intn(len(models))]
			switch r.Intn(8) {
			case 0:
				models = append(models, edgeModel{m.edge.Clone(), slices.Clone(m.leaves)})
			case 1:
				models = append(models, edgeModel{load(t, m.edge.Size(), m.edge.Nodes()), slices.Clone(m.leaves)})
			case 2:
				models = append(models, edgeModel{frontier.New(), nil})
			case 3:
				m.edge.Add("odd")
			default:
				leaf := hashOf(string(rune(r.Intn(1 << 16))))
				m.edge.Add(leaf)
				m.leaves = append(m.leaves, leaf)
			}
		}
		for _, m := range models {
			edgeIs(t, "F2: edges side by side", m.edge, len(m.leaves), slowCompact(0, m.leaves).Hashes)
		}
	}
}

func TestClone(t *testing.T) {
	l := some(40, "leaf")
	for n := range 40 {
		want := slowCompact(0, l[:n])
		one := edgeOf(t, l[:n])
		two := one.Clone()
		edgeIs(t, "F2: a clone", two, n, want.Hashes)
		for range 5 {
			one.Add(hashOf("of the one"))
		}
		edgeIs(t, "F2: a clone beside one that goes on", two, n, want.Hashes)
		three := two.Clone()
		two.Add(hashOf("of the other"))
		edgeIs(t, "F2: one whose clone goes on", three, n, want.Hashes)
		edgeIs(t, "F2: a clone that goes on", two, n+1, slowCompact(0, append(slices.Clone(l[:n]), hashOf("of the other"))).Hashes)
	}
}

func TestAskingChangesNothing(t *testing.T) {
	l := some(30, "leaf")
	asked, plain := frontier.New(), frontier.New()
	for _, leaf := range l {
		asked.Add(leaf)
		plain.Add(leaf)
		for range 2 {
			asked.Root()
			asked.Nodes()
			asked.Size()
			asked.Clone().Add(leaf)
			asked.Add("odd")
		}
	}
	edgeIs(t, "F2: asked at each size", asked, plain.Size(), plain.Nodes())
}

func TestCallsAtOnce(t *testing.T) {
	leaves := some(100, "leaf")
	a, b := made(3, 77, "left"), made(77, 200, "right")
	edge := edgeOf(t, leaves)
	wantJoin, wantCompact := slowJoin(a, b), slowCompact(5, leaves)
	var all sync.WaitGroup
	for range 8 {
		all.Go(func() {
			for range 20 {
				r, e := frontier.Join(a, b)
				rangeIs(t, "R2: Join at once", r, e, wantJoin)
				r, e = frontier.Compact(5, leaves)
				rangeIs(t, "R2: Compact at once", r, e, wantCompact)
				c := edge.Clone()
				c.Add(leaves[0])
				if c.Size() != 101 {
					t.Errorf("R2: a clone of %d leaves", c.Size())
				}
			}
		})
	}
	all.Wait()
	edgeIs(t, "R2: asked at once", edge, 100, slowCompact(0, leaves).Hashes)
}
