package extract_test

import (
	"encoding/json"
	"math/rand"
	"os"
	"os/exec"
	"path/filepath"
	"slices"
	"strconv"
	"strings"
	"sync"
	"testing"

	"scrivener/api"
	"scrivener/digest"
	"scrivener/extract"
	"scrivener/recursion"
)

// Nobody has two unlike texts with one SHA-256 digest. So that pairs can be found all the same, the tests here run once more in a program that is built over another package digest, whose digests are but a few: those of SHA-256, counted by a number that the environment tells.

const weakCount = "SCRIVENER_WEAK"

const weakDigest = `package digest

import (
	"crypto/sha256"
	"os"
	"strconv"
	"strings"

	"scrivener/api"
)

var count, _ = strconv.Atoi(os.Getenv("` + weakCount + `"))

func Sum(parts ...string) string {
	h := sha256.Sum256([]byte(strings.Join(parts, "")))
	return strings.Repeat(string([]byte{h[0] % byte(count)}), 32)
}

func Empty() string { return Sum() }

func Leaf(entry string) string { return Sum("\x00", entry) }

func Node(left, right string) (string, api.Errno) {
	if len(left) != 32 || len(right) != 32 {
		return "", api.ErrDigestSize
	}
	return Sum("\x01", left, right), api.OK
}
`

func isWeak() bool { return digest.Sum() != strongHash("") }

// weakOnly leaves a test out that has nothing to find over SHA-256.
func weakOnly(t *testing.T) {
	t.Helper()
	if !isWeak() {
		t.Skip("over a weak digest alone")
	}
}

// buildWeak builds the tests of this folder over the weak digest.
func buildWeak(t *testing.T) string {
	t.Helper()
	folder := t.TempDir()
	weak, over, program := filepath.Join(folder, "weak.go"), filepath.Join(folder, "over.json"), filepath.Join(folder, "weak.test")
	files, err := filepath.Glob("../digest/*.go")
	if err != nil || len(files) == 0 {
		t.Fatalf("no files of package digest: %v", err)
	}
	replace := map[string]string{}
	for _, f := range files {
		full, err := filepath.Abs(f)
		if err != nil {
			t.Fatal(err)
		}
		replace[full] = ""
		if filepath.Base(f) == "digest.go" {
			replace[full] = weak
		}
	}
	text, err := json.Marshal(map[string]map[string]string{"Replace": replace})
	if err != nil {
		t.Fatal(err)
	}
	for name, content := range map[string]string{weak: weakDigest, over: string(text)} {
		if err := os.WriteFile(name, []byte(content), 0o644); err != nil {
			t.Fatal(err)
		}
	}
	if out, err := exec.Command("go", "test", "-c", "-overlay", over, "-o", program, ".").CombinedOutput(); err != nil {
		t.Fatalf("building over the weak digest: %v\n%s", err, out)
	}
	return program
}

func TestOverWeakDigests(t *testing.T) {
	if isWeak() {
		t.Skip("this is such a run")
	}
	program := buildWeak(t)
	var all sync.WaitGroup
	for _, count := range []int{1, 2, 3, 8} {
		all.Go(func() { runWeak(t, program, count) })
	}
	all.Wait()
}

// runWeak fails, too, if a test was left out: else a wrong name would hold nothing.
func runWeak(t *testing.T, program string, count int) {
	run := exec.Command(program, "-test.v", "-test.run", "^(TestWeak|TestLists|TestSameMemory|TestCallsAtOnce)")
	run.Env = append(os.Environ(), weakCount+"="+strconv.Itoa(count))
	out, err := run.CombinedOutput()
	if n := strings.Count(string(out), "--- PASS"); err != nil || n != 9 {
		t.Errorf("over %d digests: %v: %d tests passed\n%s", count, err, n, out)
	}
}

// dice throw what the tests over a weak digest are made of.
type dice struct{ *rand.Rand }

func newDice() dice { return dice{rand.New(rand.NewSource(6))} }

// hash is one of few: some that are digests, over a weak one, and some that are none.
func (d dice) hash() string { return strings.Repeat(string([]byte{byte(d.Intn(5))}), 32) }

func (d dice) hashes(n int) []string {
	l := make([]string, n)
	for i := range l {
		l[i] = d.hash()
	}
	return l
}

// changed is a list with some of its hashes changed: one of count, about.
func (d dice) changed(l []string, count int) []string {
	c := slices.Clone(l)
	for i := range c {
		if d.Intn(count) == 0 {
			c[i] = d.hash()
		}
	}
	return c
}

// tally counts the pairs that were found, by how many steps stand above them.
type tally struct{ found [64]int }

func (c *tally) count(a answer) {
	if a.e == api.OK {
		c.found[a.depth]++
	}
}

// enough tells whether pairs were found at the top and below it: else the test holds nothing.
func (c *tally) enough(t *testing.T, promise string, depth int) {
	t.Helper()
	for i := range depth {
		if c.found[i] == 0 {
			t.Errorf("%s: no pair was found %d steps below the top", promise, i)
		}
	}
}

func TestWeakEntries(t *testing.T) {
	weakOnly(t)
	var c tally
	for i := range 40 {
		for j := range 40 {
			c.count(checkEntries(t, "two entries", strings.Repeat("e", i), strings.Repeat("e", j)))
		}
	}
	c.enough(t, "X1", 1)
}

func TestWeakLeaves(t *testing.T) {
	weakOnly(t)
	d := newDice()
	var c tally
	for n := range 34 {
		for range 100 {
			a := d.hashes(n)
			c.count(checkLeaves(t, "two lists", a, d.changed(a, 1+d.Intn(n+1))))
		}
	}
	for _, n := range []int{511, 512, 513, 4095, 4096} {
		for range 6 {
			a := d.hashes(n)
			c.count(checkLeaves(t, "two long lists", a, d.changed(a, n)))
		}
		long := d.hashes(4097)
		checkLeaves(t, "two lists that are too long", long, d.changed(long, n))
	}
	c.enough(t, "X2", 5)
}

// thrown are two paths of a place, with one root, if the digest will have it so.
func (d dice) thrown(size, index, length int) paths {
	p := paths{size: size, index: index, leaf: d.hash(), path: d.hashes(length)}
	p.root = upPath(size, index, p.leaf, p.path).result
	p.way = d.changed(p.path, 1+d.Intn(2*length+1))
	p.other = p.leaf
	if d.Intn(2) == 0 {
		p.other = d.hash()
	}
	return p
}

// pathLength is how many hashes are taken: one at each level but those where nothing stands beside.
func pathLength(size, index int) int {
	n := 0
	for f, s := index, size-1; s != 0; f, s = f/2, s/2 {
		if f%2 == 1 || f < s {
			n++
		}
	}
	return n
}

func TestWeakPaths(t *testing.T) {
	weakOnly(t)
	d := newDice()
	var c tally
	for size := 1; size <= 40; size++ {
		for index := range size {
			for range 20 {
				c.count(d.thrown(size, index, pathLength(size, index)).check(t, "two paths"))
			}
			checkOther(t, d, size, index)
		}
	}
	c.enough(t, "X3", 5)
}

// checkOther holds paths that are too short or too long against the model.
func checkOther(t *testing.T, d dice, size, index int) {
	t.Helper()
	p := d.thrown(size, index, pathLength(size, index))
	long, short := p, p
	long.way = append(slices.Clone(p.way), d.hash())
	long.check(t, "a longer way")
	long.path, long.way = long.way, p.way
	long.check(t, "a longer path")
	if size > 1 {
		short.way = p.way[1:]
		short.check(t, "a shorter way")
		short.path, short.way = short.way, p.way
		short.check(t, "a shorter path")
	}
}

func TestWeakPathsOfGreatTrees(t *testing.T) {
	weakOnly(t)
	d := newDice()
	var c tally
	for level := 6; level <= 40; level++ {
		for _, size := range []int{1<<level - 1, 1 << level, 1<<(level-1) + 1, 1<<(level-1) + 1<<(level/2), 1<<(level-1) + d.Intn(1<<(level-1))} {
			for _, index := range []int{0, 1, size / 2, half(size) - 1, min(half(size), size-1), size - 2, size - 1, d.Intn(size)} {
				for range 3 {
					c.count(d.thrown(size, index, pathLength(size, index)).check(t, "two paths of a great tree"))
				}
			}
		}
	}
	c.enough(t, "X3", 20)
}

// proven is a proof to the root of some leaves, if the digest will have it so; its old root is the one that it leads to.
func (d dice) proven(l []string, first int) proofs {
	right, _ := recursion.Proof(l, first)
	p := proofs{leaves: l, first: first, proof: d.changed(right, 1+d.Intn(2*len(right)+1))}
	p.old = slowRoot(l[:first])
	if d.Intn(3) == 0 {
		p.old = d.hash()
	}
	if w := upProof(first, len(l), p.old, p.proof); first < len(l) && d.Intn(8) > 0 {
		p.old = w.old
	}
	return p
}

func TestWeakProofs(t *testing.T) {
	weakOnly(t)
	d := newDice()
	var c tally
	for n := 1; n <= 40; n++ {
		for m := 1; m <= n; m++ {
			for range 20 {
				c.count(d.proven(d.hashes(n), m).check(t, "a proof from "+strconv.Itoa(m)+" to "+strconv.Itoa(n)))
			}
		}
	}
	for _, n := range []int{511, 513, 4095, 4096} {
		for _, m := range []int{1, 3, 64, 100, n/2 - 1, n / 2, n/2 + 1, n - 2, n - 1, n} {
			for range 2 {
				c.count(d.proven(d.hashes(n), m).check(t, "a proof from "+strconv.Itoa(m)+" to "+strconv.Itoa(n)))
			}
		}
	}
	c.enough(t, "X4", 4)
}

// X5's own words: each of the disagreements gives a pair.
func TestWeakDisagreements(t *testing.T) {
	weakOnly(t)
	d := newDice()
	seen := map[string]int{}
	isPair := func(what string, p api.Pair, e api.Errno) {
		t.Helper()
		seen[what]++
		if e != api.OK || p.A == p.B || digest.Sum(p.A) != digest.Sum(p.B) {
			t.Fatalf("X5: %s gives no pair: %d", what, e)
		}
	}
	for range 5000 {
		n := 1 + d.Intn(20)
		a, b := d.hashes(n), d.hashes(n)
		i := d.Intn(n)
		root, _ := recursion.Root(a)
		other, _ := recursion.Root(b)
		if root == other && a[i] != b[i] {
			p, e := extract.Leaves(a, b)
			isPair("two lists with one root", p, e)
			path, _ := recursion.Path(a, i)
			way, _ := recursion.Path(b, i)
			p, e = extract.Inclusion(n, i, root, a[i], path, b[i], way)
			isPair("two accepted paths of unlike leaves", p, e)
		}
		first := i + 1
		old, _ := recursion.Root(b[:first])
		if begin, _ := recursion.Root(a[:first]); root == other && begin != old {
			proof, _ := recursion.Proof(b, first)
			p, e := extract.Consistency(a, first, old, proof)
			isPair("a proof from another old root", p, e)
		}
		if one, two := strconv.Itoa(d.Intn(100)), strconv.Itoa(d.Intn(100)); one != two && digest.Leaf(one) == digest.Leaf(two) {
			p, e := extract.Entries(one, two)
			isPair("two entries with one leaf", p, e)
		}
	}
	if len(seen) != 4 {
		t.Errorf("X5: of the four kinds, %d were thrown", len(seen))
	}
}
