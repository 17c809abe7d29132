package frontier_test

import (
	"math/rand"
	"slices"
	"testing"

	"scrivener/api"
	"scrivener/frontier"
	"scrivener/recursion"
	"scrivener/verify"
)

// The stage's theorem, F6.

func compact(t *testing.T, from int, leaves []string) api.Range {
	t.Helper()
	r, e := frontier.Compact(from, leaves)
	if e != api.OK {
		t.Fatalf("F3: Compact(%d, %d leaves): %d", from, len(leaves), e)
	}
	return r
}

func join(t *testing.T, a, b api.Range) api.Range {
	t.Helper()
	r, e := frontier.Join(a, b)
	if e != api.OK {
		t.Fatalf("F4: Join of [%d, %d) and [%d, %d): %d", a.Begin, a.End, b.Begin, b.End, e)
	}
	return r
}

func edgeOf(t *testing.T, leaves []string) *frontier.Edge {
	t.Helper()
	edge := frontier.New()
	for _, leaf := range leaves {
		if e := edge.Add(leaf); e != api.OK {
			t.Fatalf("F2: Add: %d", e)
		}
	}
	return edge
}

func TestRootIsThatOfRecursion(t *testing.T) {
	most := api.MaxList
	if testing.Short() {
		most = 300
	}
	l := some(most, "leaf")
	edge := frontier.New()
	for i, leaf := range l {
		edge.Add(leaf)
		n := i + 1
		if n > 300 && n&(n-1) != 0 && (n+1)&n != 0 && n%97 != 0 {
			continue
		}
		want, _ := recursion.Root(l[:n])
		if edge.Root() != want {
			t.Errorf("F6: Root of %d leaves", n)
		}
		r := compact(t, 0, l[:n])
		if !slices.Equal(edge.Nodes(), r.Hashes) || r.Begin != 0 || r.End != n {
			t.Errorf("F6: Nodes of %d leaves", n)
		}
		if s, e := frontier.RootOf(r); s != want || e != api.OK {
			t.Errorf("F6: RootOf of %d leaves: %d", n, e)
		}
	}
}

// Each hash of a range is layer 3's of its subtree's leaves.
func TestHashesAreParts(t *testing.T) {
	l := some(60, "leaf")
	for end := range 61 {
		for begin := range end + 1 {
			var want []string
			for _, s := range slowCut(begin, end) {
				part, _ := recursion.Part(l, s)
				want = append(want, part)
			}
			if r := compact(t, begin, l[begin:end]); !slices.Equal(r.Hashes, want) {
				t.Errorf("F3: Compact of [%d, %d)", begin, end)
			}
		}
	}
}

// parts are the ranges of neighbours that some leaves from a place on are cut into, at random; there may be empty ones.
func parts(t *testing.T, r *rand.Rand, from int, leaves []string) []api.Range {
	t.Helper()
	cuts := []int{0, len(leaves)}
	for range r.Intn(12) {
		cuts = append(cuts, r.Intn(len(leaves)+1))
	}
	slices.Sort(cuts)
	var all []api.Range
	for i := range len(cuts) - 1 {
		all = append(all, compact(t, from+cuts[i], leaves[cuts[i]:cuts[i+1]]))
	}
	return all
}

func TestAnyOrderOfJoins(t *testing.T) {
	r := rand.New(rand.NewSource(5))
	l := some(600, "leaf")
	rounds := 3000
	if testing.Short() {
		rounds = 300
	}
	for range rounds {
		leaves := l[:r.Intn(1+[]int{8, 40, 600}[r.Intn(3)])]
		from := []int{0, 0, r.Intn(100), r.Intn(api.MaxSize), 1<<39 - r.Intn(100), api.MaxSize - len(leaves)}[r.Intn(6)]
		from = min(from, api.MaxSize-len(leaves))
		all := parts(t, r, from, leaves)
		for len(all) > 1 {
			i := r.Intn(len(all) - 1)
			all[i] = join(t, all[i], all[i+1])
			all = slices.Delete(all, i+1, i+2)
		}
		want := compact(t, from, leaves)
		rangeIs(t, "F6: joined parts", all[0], api.OK, want)
		if from == 0 && !slices.Equal(edgeOf(t, leaves).Nodes(), all[0].Hashes) {
			t.Errorf("F6: joined parts of %d leaves have other hashes than the edge", len(leaves))
		}
	}
}

// Of made-up hashes, of spans of any greatness, joins may be done in both orders.
func TestJoinsAgree(t *testing.T) {
	r := rand.New(rand.NewSource(6))
	places := greatPlaces(r)
	for range 5000 {
		at := []int{places[r.Intn(len(places))], places[r.Intn(len(places))], r.Intn(api.MaxSize + 1), r.Intn(100)}
		slices.Sort(at)
		a, b, c := made(at[0], at[1], "a"), made(at[1], at[2], "b"), made(at[2], at[3], "c")
		x, y := join(t, join(t, a, b), c), join(t, a, join(t, b, c))
		rangeIs(t, "F6: both orders", x, api.OK, y)
	}
}

func TestLoadedGoesOn(t *testing.T) {
	l := some(150, "leaf")
	for n := range 100 {
		first := edgeOf(t, l[:n])
		second := load(t, first.Size(), first.Nodes())
		third := first.Clone()
		for _, leaf := range l[n:] {
			for _, edge := range []*frontier.Edge{first, second, third} {
				if e := edge.Add(leaf); e != api.OK {
					t.Fatalf("F6: Add behind %d leaves: %d", edge.Size(), e)
				}
			}
			for _, edge := range []*frontier.Edge{second, third} {
				if edge.Size() != first.Size() || edge.Root() != first.Root() || !slices.Equal(edge.Nodes(), first.Nodes()) {
					t.Fatalf("F6: loaded at %d, of %d leaves", n, first.Size())
				}
			}
		}
	}
}

// An edge that is loaded at a great size goes on as joins of single leaves do.
func TestGreatEdgesGoOn(t *testing.T) {
	leaves := some(20, "leaf")
	for _, size := range greatPlaces(rand.New(rand.NewSource(7))) {
		r := made(0, size, "node")
		edge := load(t, size, r.Hashes)
		for _, leaf := range leaves {
			if r.End == api.MaxSize {
				break
			}
			edge.Add(leaf)
			r = join(t, r, compact(t, r.End, []string{leaf}))
			edgeIs(t, "F6: a great edge", edge, r.End, r.Hashes)
		}
	}
}

// Roots of the edge are those to which layer 4 goes up by layer 3's proofs.
func TestProofsLeadToRoots(t *testing.T) {
	l := some(40, "leaf")
	for n := 1; n <= 40; n++ {
		now := edgeOf(t, l[:n]).Root()
		for m := 1; m <= n; m++ {
			path, _ := recursion.Path(l[:n], m-1)
			if e := verify.Inclusion(n, m-1, l[m-1], path, now); e != api.OK {
				t.Errorf("P2: the path of %d of %d: %d", m-1, n, e)
			}
			proof, _ := recursion.Proof(l[:n], m)
			if e := verify.Consistency(m, n, edgeOf(t, l[:m]).Root(), now, proof); e != api.OK {
				t.Errorf("P2: the proof from %d to %d: %d", m, n, e)
			}
		}
	}
}
