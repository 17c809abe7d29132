package extract_test

import (
	"math"
	"slices"
	"strings"
	"testing"

	"scrivener/api"
	"scrivener/digest"
	"scrivener/extract"
	"scrivener/recursion"
)

// same tells whether a call answered what it should, by the promise of that name.
func same(t *testing.T, promise, what string, p api.Pair, e api.Errno, want answer) {
	t.Helper()
	if want.e < 0 {
		t.Fatalf("X5: %s: there is no pair", what)
	}
	if e != want.e {
		t.Fatalf("%s: %s: answers %d, not %d", promise, what, e, want.e)
	}
	if p != want.pair {
		t.Fatalf("%s: %s: the pair is %x and %x, not %x and %x", promise, what, p.A, p.B, want.pair.A, want.pair.B)
	}
	if e == api.OK && (p.A == p.B || digest.Sum(p.A) != digest.Sum(p.B)) {
		t.Fatalf("X5: %s: the pair is the same text twice, or has two digests", what)
	}
}

func checkEntries(t *testing.T, what, a, b string) answer {
	t.Helper()
	p, e := extract.Entries(a, b)
	want := slowEntries(a, b)
	same(t, "X1", what, p, e, want)
	return want
}

func checkLeaves(t *testing.T, what string, a, b []string) answer {
	t.Helper()
	p, e := extract.Leaves(a, b)
	want := slowLeaves(a, b)
	same(t, "X2", what, p, e, want)
	return want
}

func (p paths) check(t *testing.T, what string) answer {
	t.Helper()
	pair, e := extract.Inclusion(p.size, p.index, p.root, p.leaf, p.path, p.other, p.way)
	want := p.slow()
	same(t, "X3", what, pair, e, want)
	return want
}

func (p proofs) check(t *testing.T, what string) answer {
	t.Helper()
	pair, e := extract.Consistency(p.leaves, p.first, p.old, p.proof)
	want := p.slow()
	same(t, "X4", what, pair, e, want)
	return want
}

// answers tells what a check of the model came to, where the document says it itself.
func answers(t *testing.T, what string, got answer, want api.Errno) {
	t.Helper()
	if got.e != want {
		t.Errorf("%s: %d, not %d", what, got.e, want)
	}
}

func TestEntries(t *testing.T) {
	long := strings.Repeat("e", 2000)
	for _, c := range [][2]string{{"", ""}, {"a", "a"}, {"", "a"}, {"a", ""}, {"a", "b"}, {"a", "a\x00"}, {"\x00", ""}, {long, long}, {long, long[1:]}} {
		answers(t, "X1: two entries", checkEntries(t, "two entries", c[0], c[1]), api.ErrExtractNone)
	}
}

func TestExamplesOfLeaves(t *testing.T) {
	l := some(3, "leaf")
	x, y, z := l[0], l[1], l[2]
	for _, c := range []struct {
		what string
		a, b []string
		want api.Errno
	}{
		{"two empty lists", nil, []string{}, api.ErrExtractNone},
		{"one leaf and none", []string{x}, nil, api.ErrArg},
		{"none and one leaf", nil, []string{x}, api.ErrArg},
		{"x, y and x, z", []string{x, y}, []string{x, z}, api.ErrExtractNone},
		{"x and y", []string{x}, []string{y}, api.ErrExtractNone},
		{"x twice", []string{x}, []string{x}, api.ErrExtractNone},
		{"turned round", []string{x, y, z}, []string{z, y, x}, api.ErrExtractNone},
	} {
		answers(t, "X2: "+c.what, checkLeaves(t, c.what, c.a, c.b), c.want)
	}
}

// noHashes are texts that are none, by their lengths.
func noHashes() []string {
	return []string{"", "x", strings.Repeat("x", 31), strings.Repeat("x", 33), strings.Repeat("x", 64)}
}

func TestWrongLeaves(t *testing.T) {
	for n := 1; n <= 9; n++ {
		l := some(n, "leaf")
		for i := range n {
			for _, s := range noHashes() {
				bad := slices.Clone(l)
				bad[i] = s
				answers(t, "X2: no hash in a", checkLeaves(t, "no hash in a", bad, l), api.ErrArg)
				answers(t, "X2: no hash in b", checkLeaves(t, "no hash in b", l, bad), api.ErrArg)
				answers(t, "X2: no hash in both", checkLeaves(t, "no hash in both", bad, bad), api.ErrArg)
				p := proofs{leaves: bad, first: n, old: l[0]}
				answers(t, "X4: no hash in the leaves", p.check(t, "no hash in the leaves"), api.ErrArg)
			}
		}
	}
}

func TestHowManyLeaves(t *testing.T) {
	for n, want := range map[int]api.Errno{4095: api.ErrExtractNone, 4096: api.ErrExtractNone, 4097: api.ErrArg, 5000: api.ErrArg} {
		l := some(n, "leaf")
		answers(t, "X2: many", checkLeaves(t, "many", l, l), want)
		turned := slices.Clone(l)
		slices.Reverse(turned)
		answers(t, "X2: many, turned round", checkLeaves(t, "many, turned round", l, turned), want)
		p := proofs{leaves: l, first: n, old: slowRoot(l)}
		answers(t, "X4: many", p.check(t, "many"), want)
	}
	answers(t, "X2: 4096 and 4095", checkLeaves(t, "4096 and 4095", some(4096, "leaf"), some(4095, "leaf")), api.ErrArg)
}

// pathsOf are those of a leaf, twice the same.
func pathsOf(t *testing.T, l []string, index int) paths {
	t.Helper()
	p, e := recursion.Path(l, index)
	if e != api.OK {
		t.Fatalf("T4: the path of %d of %d: %d", index, len(l), e)
	}
	return paths{len(l), index, slowRoot(l), l[index], p, l[index], slices.Clone(p)}
}

func TestExamplesOfPaths(t *testing.T) {
	l := some(2, "leaf")
	x, y := l[0], l[1]
	answers(t, "X3: x alone", paths{1, 0, x, x, nil, x, nil}.check(t, "x alone"), api.ErrExtractNone)
	answers(t, "X3: x alone", paths{1, 0, x, x, nil, x, []string{}}.check(t, "x alone"), api.ErrExtractNone)
	answers(t, "X3: another root", paths{1, 0, y, x, nil, x, nil}.check(t, "another root"), api.ErrExtractProof)
	answers(t, "X3: another leaf", paths{1, 0, x, x, nil, y, nil}.check(t, "another leaf"), api.ErrExtractProof)
}

func TestPathsOnceOrTwice(t *testing.T) {
	z := strongHash("another")
	for n := 1; n <= 20; n++ {
		l := some(n, "leaf")
		for i := range n {
			right := pathsOf(t, l, i)
			answers(t, "X3: the same", right.check(t, "the same"), api.ErrExtractNone)
			wrong := func(what string, change func(p *paths)) {
				p := right
				p.path, p.way = slices.Clone(p.path), slices.Clone(p.way)
				change(&p)
				answers(t, "X3: "+what, p.check(t, what), api.ErrExtractProof)
			}
			wrong("another leaf first", func(p *paths) { p.leaf = z })
			wrong("another leaf second", func(p *paths) { p.other = z })
			wrong("another leaf twice", func(p *paths) { p.leaf, p.other = z, z })
			wrong("another root", func(p *paths) { p.root = z })
			wrong("a longer path", func(p *paths) { p.path = append(p.path, z) })
			wrong("a longer way", func(p *paths) { p.way = append(p.way, z) })
			for _, s := range noHashes() {
				wrong("a leaf that is no hash", func(p *paths) { p.leaf, p.other = s, s })
				wrong("a root that is no hash", func(p *paths) { p.root = s })
			}
			for k := range right.path {
				wrong("a hash of the path changed", func(p *paths) { p.path[k] = z })
				wrong("a hash of the way changed", func(p *paths) { p.way[k] = z })
				wrong("a hash of both changed", func(p *paths) { p.path[k], p.way[k] = z, z })
				wrong("a shorter path", func(p *paths) { p.path = p.path[:k] })
				wrong("a shorter way", func(p *paths) { p.way = p.way[:k] })
				wrong("no hash in the path", func(p *paths) { p.path[k] = "" })
				wrong("no hash in the way", func(p *paths) { p.way[k] = "" })
			}
		}
	}
}

func TestPlacesThatAreNone(t *testing.T) {
	x := strongHash("x")
	for _, size := range []int{math.MinInt, -1, 0, 1, 2, 1<<40 + 1, math.MaxInt} {
		for _, index := range []int{math.MinInt, -1, 0, 1, 2, 1<<40 - 1, 1 << 40, math.MaxInt} {
			if size == 1 && index == 0 {
				continue
			}
			p := paths{size, index, x, x, nil, x, nil}
			answers(t, "X3: no such place", p.check(t, "no such place"), api.ErrExtractProof)
		}
	}
	for _, first := range []int{math.MinInt, -1, 0, 4, 5, math.MaxInt} {
		p := proofs{some(3, "leaf"), first, x, nil}
		answers(t, "X4: no such first size", p.check(t, "no such first size"), api.ErrExtractProof)
	}
	for _, first := range []int{-1, 0, 1} {
		p := proofs{nil, first, digest.Empty(), nil}
		answers(t, "X4: of no leaves", p.check(t, "of no leaves"), api.ErrExtractProof)
	}
}

// proofsOf are the right ones.
func proofsOf(t *testing.T, l []string, first int) proofs {
	t.Helper()
	p, e := recursion.Proof(l, first)
	if e != api.OK {
		t.Fatalf("T4: the proof from %d to %d: %d", first, len(l), e)
	}
	return proofs{l, first, slowRoot(l[:first]), p}
}

func TestProofs(t *testing.T) {
	z := strongHash("another")
	for n := 1; n <= 20; n++ {
		l := some(n, "leaf")
		for m := 1; m <= n; m++ {
			right := proofsOf(t, l, m)
			answers(t, "X4: the right proof", right.check(t, "the right proof"), api.ErrExtractNone)
			wrong := func(what string, want api.Errno, change func(p *proofs)) {
				p := right
				p.leaves, p.proof = slices.Clone(p.leaves), slices.Clone(p.proof)
				change(&p)
				answers(t, "X4: "+what, p.check(t, what), want)
			}
			wrong("another old root", api.ErrExtractProof, func(p *proofs) { p.old = z })
			wrong("an old root that is no hash", api.ErrExtractProof, func(p *proofs) { p.old = p.old[1:] })
			wrong("a longer proof", api.ErrExtractProof, func(p *proofs) { p.proof = append(p.proof, z) })
			wrong("no leaves", api.ErrExtractProof, func(p *proofs) { p.leaves = nil })
			wrong("no hash, and another old root", api.ErrArg, func(p *proofs) { p.leaves[0], p.old = "", z })
			for k := range right.proof {
				wrong("a hash changed", api.ErrExtractProof, func(p *proofs) { p.proof[k] = z })
				wrong("no hash in the proof", api.ErrExtractProof, func(p *proofs) { p.proof[k] = "" })
				wrong("a shorter proof", api.ErrExtractProof, func(p *proofs) { p.proof = p.proof[:k] })
			}
			for i := range l {
				wrong("another leaf", api.ErrExtractProof, func(p *proofs) { p.leaves[i] = z })
			}
		}
	}
}

// The other face of a log, of its own leaves and with its own proof, says another thing of another root: nothing is to be worked out of that.
func TestTwoFaces(t *testing.T) {
	l := some(5, "leaf")
	face := slices.Clone(l)
	face[1] = strongHash("another entry")
	p := proofsOf(t, face, 3)
	answers(t, "X4: another face", p.check(t, "another face"), api.ErrExtractNone)
	p.old = slowRoot(l[:3])
	answers(t, "X4: another face's proof", p.check(t, "another face's proof"), api.ErrExtractProof)
}
