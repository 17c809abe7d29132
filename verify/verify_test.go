package verify_test

import (
	"math"
	"math/bits"
	"math/rand"
	"slices"
	"testing"

	"scrivener/api"
	"scrivener/verify"
)

func TestPathLen(t *testing.T) {
	most := 0
	for _, p := range places(rand.New(rand.NewSource(1))) {
		n, e := verify.PathLen(p.a, p.b)
		if n != slowPathLen(p.a, p.b) || e != api.OK {
			t.Errorf("V1: PathLen(%d, %d): %d, %d", p.a, p.b, n, e)
		}
		// Below the level where the way meets that of the last leaf each level has a hash; above it, those where both stand right.
		meet := bits.Len(uint(p.b ^ (p.a - 1)))
		if n != meet+bits.OnesCount(uint(p.b>>meet)) {
			t.Errorf("V1: PathLen(%d, %d): %d, not as the digits say", p.a, p.b, n)
		}
		most = max(most, n)
	}
	if most != 40 {
		t.Errorf("V4: the longest path has %d hashes", most)
	}
}

func TestProofLen(t *testing.T) {
	most := 0
	for _, p := range sizes(rand.New(rand.NewSource(2))) {
		n, e := verify.ProofLen(p.a, p.b)
		if n != slowProofLen(p.a, p.b, true) || e != api.OK {
			t.Errorf("V1: ProofLen(%d, %d): %d, %d", p.a, p.b, n, e)
		}
		if p.a == p.b && n != 0 {
			t.Errorf("V1: ProofLen(%d, %d): %d", p.a, p.b, n)
		}
		most = max(most, n)
	}
	if most != 41 {
		t.Errorf("V4: the longest proof has %d hashes", most)
	}
}

func TestRootOf(t *testing.T) {
	hashes := some(40, "path")
	leaf := hashOf("leaf")
	for _, p := range places(rand.New(rand.NewSource(3))) {
		path := hashes[:slowPathLen(p.a, p.b)]
		want := slowRootOf(p.a, p.b, leaf, path)
		if r, e := verify.RootOf(p.a, p.b, leaf, path); r != want || e != api.OK {
			t.Errorf("V2: RootOf(%d, %d): %x, %d", p.a, p.b, r, e)
		}
		if e := verify.Inclusion(p.a, p.b, leaf, path, want); e != api.OK {
			t.Errorf("V2: Inclusion(%d, %d): %d", p.a, p.b, e)
		}
		for _, other := range []string{changed(want, 0), changed(want, 31), leaf, hashOf(""), hashes[39]} {
			if e := verify.Inclusion(p.a, p.b, leaf, path, other); other != want && e != api.ErrProofRoot {
				t.Errorf("V4: Inclusion(%d, %d) of another root: %d", p.a, p.b, e)
			}
		}
	}
}

func TestRootsOf(t *testing.T) {
	hashes := some(41, "proof")
	old := hashOf("old")
	for _, p := range sizes(rand.New(rand.NewSource(4))) {
		proof := hashes[:slowProofLen(p.a, p.b, true)]
		wantA, wantB := slowRootsOf(p.a, p.b, true, old, proof)
		a, b, e := verify.RootsOf(p.a, p.b, old, proof)
		if a != wantA || b != wantB || e != api.OK {
			t.Errorf("V3: RootsOf(%d, %d): %x, %x, %d", p.a, p.b, a, b, e)
		}
		// Where the proof's first hash stands for the old root, what it leads to is another one than the old root that was made up; then no root at all is taken.
		want := api.OK
		if wantA != old {
			want = api.ErrProofRoot
		}
		if e := verify.Consistency(p.a, p.b, old, wantB, proof); e != want {
			t.Errorf("V3: Consistency(%d, %d): %d, want %d", p.a, p.b, e, want)
		}
		x, y := slowRootsOf(p.a, p.b, true, wantA, proof)
		if e := verify.Consistency(p.a, p.b, x, y, proof); e != api.OK {
			t.Errorf("V3: Consistency(%d, %d): %d", p.a, p.b, e)
		}
		for _, other := range []string{changed(y, 0), changed(y, 31), hashOf("")} {
			if e := verify.Consistency(p.a, p.b, x, other, proof); e != api.ErrProofRoot {
				t.Errorf("V3: Consistency(%d, %d) of another new root: %d", p.a, p.b, e)
			}
		}
		if e := verify.Consistency(p.a, p.b, changed(x, 7), y, proof); e != api.ErrProofRoot {
			t.Errorf("V3: Consistency(%d, %d) of another old root: %d", p.a, p.b, e)
		}
	}
}

// changed is a text with one bit of one byte another one.
func changed(s string, at int) string {
	b := []byte(s)
	b[at] ^= 1
	return string(b)
}

func TestExamples(t *testing.T) {
	for _, c := range []struct {
		size, index, n int
		e              api.Errno
	}{
		{5, 4, 1, api.OK}, {5, 0, 3, api.OK}, {1, 0, 0, api.OK}, {0, 0, 0, api.ErrProofSize}, {1 << 40, 1<<40 - 1, 40, api.OK},
	} {
		if n, e := verify.PathLen(c.size, c.index); n != c.n || e != c.e {
			t.Errorf("example 1: PathLen(%d, %d): %d, %d", c.size, c.index, n, e)
		}
	}
	for _, c := range []struct {
		first, second, n int
		e                api.Errno
	}{
		{3, 5, 4, api.OK}, {4, 5, 1, api.OK}, {5, 5, 0, api.OK}, {0, 5, 0, api.ErrProofSize},
	} {
		if n, e := verify.ProofLen(c.first, c.second); n != c.n || e != c.e {
			t.Errorf("example 1: ProofLen(%d, %d): %d, %d", c.first, c.second, n, e)
		}
	}
	l, p := hashOf("l"), hashOf("p")
	for _, c := range []struct {
		size, index int
		path        []string
		root        string
		e           api.Errno
	}{
		{1, 0, nil, l, api.OK}, {2, 1, []string{p}, node(p, l), api.OK}, {3, 2, []string{p}, node(p, l), api.OK}, {2, 1, nil, "", api.ErrProofLength},
	} {
		if r, e := verify.RootOf(c.size, c.index, l, c.path); r != c.root || e != c.e {
			t.Errorf("example 2: RootOf(%d, %d): %x, %d", c.size, c.index, r, e)
		}
	}
	old, x, y, z := hashOf("old"), hashOf("x"), hashOf("y"), hashOf("z")
	if a, b, e := verify.RootsOf(1, 2, old, []string{p}); a != old || b != node(old, p) || e != api.OK {
		t.Errorf("example 3: 1 to 2: %x, %x, %d", a, b, e)
	}
	if a, b, e := verify.RootsOf(3, 4, old, []string{x, y, z}); a != node(z, x) || b != node(z, node(x, y)) || e != api.OK {
		t.Errorf("example 3: 3 to 4: %x, %x, %d", a, b, e)
	}
}

func TestSameSizes(t *testing.T) {
	old, now := hashOf("old"), hashOf("now")
	for _, n := range []int{1, 2, 3, 4, 7, 8, 9, 1000, api.MaxSize - 1, api.MaxSize} {
		if a, b, e := verify.RootsOf(n, n, old, nil); a != old || b != old || e != api.OK {
			t.Errorf("V3: RootsOf(%d, %d): %x, %x, %d", n, n, a, b, e)
		}
		if _, _, e := verify.RootsOf(n, n, old, []string{now}); e != api.ErrProofLength {
			t.Errorf("V3: RootsOf(%d, %d) with a hash: %d", n, n, e)
		}
		if e := verify.Consistency(n, n, old, old, []string{}); e != api.OK {
			t.Errorf("V3: Consistency(%d, %d): %d", n, n, e)
		}
		if e := verify.Consistency(n, n, old, now, nil); e != api.ErrProofRoot {
			t.Errorf("V3: Consistency(%d, %d) of two roots: %d", n, n, e)
		}
	}
}

// extremes are numbers about all bounds.
func extremes() []int {
	return []int{math.MinInt, math.MinInt + 1, -api.MaxSize, -2, -1, 0, 1, 2, 3, api.MaxSize - 1, api.MaxSize, api.MaxSize + 1, 2 * api.MaxSize, math.MaxInt - 1, math.MaxInt}
}

func TestNumbers(t *testing.T) {
	for _, a := range extremes() {
		for _, b := range extremes() {
			wantPath, wantProof := api.OK, api.OK
			switch {
			case a < 1 || a > 1<<40:
				wantPath = api.ErrProofSize
			case b < 0 || b > a-1:
				wantPath = api.ErrProofIndex
			}
			if !(0 < a && a <= b && b <= 1<<40) {
				wantProof = api.ErrProofSize
			}
			if n, e := verify.PathLen(a, b); e != wantPath || e != api.OK && n != 0 {
				t.Errorf("V1: PathLen(%d, %d): %d, %d, want %d", a, b, n, e, wantPath)
			}
			if n, e := verify.ProofLen(a, b); e != wantProof || e != api.OK && n != 0 {
				t.Errorf("V1: ProofLen(%d, %d): %d, %d, want %d", a, b, n, e, wantProof)
			}
		}
	}
}

// call is what one of the four calls with hashes is given; now is the root, or the new one.
type call struct {
	a, b      int
	from, now string
	list      []string
}

// faults are those of the calls that hold a list against a root, in the order of the promises; each spoils a call that is right. The last two are not known to RootOf and RootsOf, which are given no root to lead to.
func faults(size, index func(c *call)) []fault {
	return []fault{
		{api.ErrProofSize, size},
		{api.ErrProofIndex, index},
		{api.ErrProofHash, func(c *call) { c.from = c.from[1:] }},
		{api.ErrProofHash, func(c *call) { c.list[0] += "x" }},
		{api.ErrProofHash, func(c *call) { c.list[len(c.list)-1] = "" }},
		{api.ErrProofLength, func(c *call) { c.list = append(c.list, hashOf("one more")) }},
		{api.ErrProofHash, func(c *call) { c.now += "\x00" }},
		{api.ErrProofRoot, func(c *call) { c.now = changed(c.now, 3) }},
	}
}

type fault struct {
	e     api.Errno
	spoil func(c *call)
}

// firstOf is the error that the promise names first, of those of a set of faults that a call knows.
func firstOf(all []fault, set int) api.Errno {
	for i, f := range all {
		if set>>i&1 == 1 {
			return f.e
		}
	}
	return api.OK
}

func spoilt(c call, all []fault, set int) call {
	c.list = slices.Clone(c.list)
	for i, f := range all {
		if set>>i&1 == 1 {
			f.spoil(&c)
		}
	}
	return c
}

func TestFirstErrorOfPaths(t *testing.T) {
	list := some(3, "list")
	right := call{7, 5, hashOf("leaf"), "", list}
	right.now = slowRootOf(7, 5, right.from, list)
	for _, size := range []int{0, api.MaxSize + 1} {
		all := faults(func(c *call) { c.a = size }, func(c *call) { c.b = size - 1 })
		for set := range 1 << len(all) {
			c := spoilt(right, all, set)
			if e := verify.Inclusion(c.a, c.b, c.from, c.list, c.now); e != firstOf(all, set) {
				t.Errorf("V2: Inclusion with the faults %b: %d", set, e)
			}
			r, e := verify.RootOf(c.a, c.b, c.from, c.list)
			if e != firstOf(all[:6], set) || e != api.OK && r != "" {
				t.Errorf("V2: RootOf with the faults %b: %x, %d", set, r, e)
			}
		}
	}
}

func TestFirstErrorOfProofs(t *testing.T) {
	list := some(4, "list")
	right := call{3, 7, "", "", list}
	right.from, right.now = slowRootsOf(3, 7, true, "", list)
	for _, sizes := range []pair{{0, 7}, {8, 7}, {3, api.MaxSize + 1}, {3, -1}} {
		wrong := func(c *call) { c.a, c.b = sizes.a, sizes.b }
		all := faults(wrong, wrong)
		all[1].e = api.ErrProofSize
		for set := range 1 << len(all) {
			c := spoilt(right, all, set)
			if e := verify.Consistency(c.a, c.b, c.from, c.now, c.list); e != firstOf(all, set) {
				t.Errorf("V3: Consistency with the faults %b: %d", set, e)
			}
			a, b, e := verify.RootsOf(c.a, c.b, c.from, c.list)
			if e != firstOf(all[:6], set) || e != api.OK && (a != "" || b != "") {
				t.Errorf("V3: RootsOf with the faults %b: %x, %x, %d", set, a, b, e)
			}
		}
	}
}

func TestHashesOfOtherLengths(t *testing.T) {
	for _, n := range []int{0, 1, 31, 33, 64, 1000} {
		odd := string(make([]byte, n))
		leaf := hashOf("leaf")
		if _, e := verify.RootOf(1, 0, odd, nil); e != api.ErrProofHash {
			t.Errorf("V2: a leaf of %d bytes: %d", n, e)
		}
		if _, _, e := verify.RootsOf(1, 1, odd, nil); e != api.ErrProofHash {
			t.Errorf("V3: an old root of %d bytes: %d", n, e)
		}
		if e := verify.Inclusion(1, 0, leaf, nil, odd); e != api.ErrProofHash {
			t.Errorf("V2: a root of %d bytes: %d", n, e)
		}
		if e := verify.Consistency(2, 2, leaf, odd, nil); e != api.ErrProofHash {
			t.Errorf("V3: a new root of %d bytes: %d", n, e)
		}
		for at := range 5 {
			list := some(5, "odd")
			list[at] = odd
			if _, e := verify.RootOf(32, 9, leaf, list); e != api.ErrProofHash {
				t.Errorf("V2: %d bytes at %d of a path: %d", n, at, e)
			}
			if _, _, e := verify.RootsOf(1, 32, leaf, list); e != api.ErrProofHash {
				t.Errorf("V3: %d bytes at %d of a proof: %d", n, at, e)
			}
		}
	}
}

func TestOtherLengths(t *testing.T) {
	list := some(100, "long")
	leaf := hashOf("leaf")
	r := rand.New(rand.NewSource(5))
	for _, p := range places(r) {
		for n := range 44 {
			want := api.OK
			if n != slowPathLen(p.a, p.b) {
				want = api.ErrProofLength
			}
			if _, e := verify.RootOf(p.a, p.b, leaf, list[:n]); e != want {
				t.Errorf("V2: RootOf(%d, %d) with %d hashes: %d", p.a, p.b, n, e)
			}
		}
	}
	for _, p := range sizes(r) {
		for n := range 44 {
			want := api.OK
			if n != slowProofLen(p.a, p.b, true) {
				want = api.ErrProofLength
			}
			if _, _, e := verify.RootsOf(p.a, p.b, leaf, list[:n]); e != want {
				t.Errorf("V3: RootsOf(%d, %d) with %d hashes: %d", p.a, p.b, n, e)
			}
		}
	}
	many := make([]string, 100000)
	for i := range many {
		many[i] = leaf
	}
	if _, e := verify.RootOf(5, 1, leaf, many); e != api.ErrProofLength {
		t.Errorf("V2: a path of 100000 hashes: %d", e)
	}
	if _, _, e := verify.RootsOf(5, 5, leaf, many); e != api.ErrProofLength {
		t.Errorf("V3: a proof of 100000 hashes: %d", e)
	}
}
