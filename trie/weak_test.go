package trie_test

import (
	"encoding/json"
	"fmt"
	"math/rand"
	"os"
	"os/exec"
	"path/filepath"
	"strconv"
	"strings"
	"sync"
	"testing"

	"scrivener/api"
	"scrivener/digest"
	"scrivener/trie"
)

// Nobody has two keys with one SHA-256 digest, nor such whose ways part near to the end; nor is to be seen how many hashes a call works out. So the tests here run once more in a program that is built over another package digest: it counts, and of keys and values it tells those bits alone that a mask lets through, which the environment tells; the others are 0. What stands in leaves and forks has its own digest still.

const weakMask = "SCRIVENER_WEAK"

// countAsked is the text whose digest tells how many others were worked out ahead of it.
const countAsked = "how many so far?"

const weakDigest = `package digest

import (
	"crypto/sha256"
	"encoding/hex"
	"os"
	"strconv"
	"strings"
	"sync/atomic"
)

var (
	mask, _ = hex.DecodeString(os.Getenv("` + weakMask + `"))
	made    atomic.Int64
)

func Sum(parts ...string) string {
	s := strings.Join(parts, "")
	if s == "` + countAsked + `" {
		return strconv.FormatInt(made.Load(), 10)
	}
	made.Add(1)
	h := sha256.Sum256([]byte(s))
	if len(s) != 65 || s[0] != 2 && s[0] != 3 {
		for i := range h {
			h[i] &= mask[i]
		}
	}
	return string(h[:])
}
`

func isWeak() bool { return len(digest.Sum(countAsked)) < 32 }

// hashesOf is how many digests a call works out.
func hashesOf(t *testing.T, call func()) int {
	t.Helper()
	var counts [2]int
	for i := range counts {
		if i > 0 {
			call()
		}
		n, err := strconv.Atoi(digest.Sum(countAsked))
		if err != nil {
			t.Fatal(err)
		}
		counts[i] = n
	}
	return counts[1] - counts[0]
}

// buildWeak builds the tests of this folder over the weak digest.
func buildWeak(t *testing.T) string {
	t.Helper()
	folder := t.TempDir()
	weak, overlay, program := filepath.Join(folder, "weak.go"), filepath.Join(folder, "over.json"), filepath.Join(folder, "weak.test")
	files, err := filepath.Glob("../digest/*.go")
	if err != nil || len(files) == 0 {
		t.Fatalf("no files of package digest: %v", err)
	}
	replace := map[string]string{}
	for _, f := range files {
		full, err := filepath.Abs(f)
		if err != nil {
			t.Fatal(err)
		}
		replace[full] = ""
		if filepath.Base(f) == "digest.go" {
			replace[full] = weak
		}
	}
	text, err := json.Marshal(map[string]map[string]string{"Replace": replace})
	if err != nil {
		t.Fatal(err)
	}
	for name, content := range map[string]string{weak: weakDigest, overlay: string(text)} {
		if err := os.WriteFile(name, []byte(content), 0o644); err != nil {
			t.Fatal(err)
		}
	}
	if out, err := exec.Command("go", "test", "-c", "-overlay", overlay, "-o", program, ".").CombinedOutput(); err != nil {
		t.Fatalf("building over the weak digest: %v\n%s", err, out)
	}
	return program
}

// masks let through: all bits, the last ones, the last but the very last, the first ones and the last ones, the very first and the very last, some far from one another, none.
func masks() []string {
	z := strings.Repeat("00", 28)
	return []string{strings.Repeat("ff", 32), z + "000000ff", z + "0000001e", "c0" + z + "00000f", "80" + z + "000001", z + "0000ffff", "01" + z[2:] + "80010001", z + "00000001", z + "00000000"}
}

func TestOverWeakDigests(t *testing.T) {
	if isWeak() {
		t.Skip("this is such a run")
	}
	program := buildWeak(t)
	var all sync.WaitGroup
	for _, mask := range masks() {
		all.Go(func() {
			run := exec.Command(program, "-test.v", "-test.run", "^(TestWeak|TestAnyWay|TestAnyCalls|TestSet$|TestClone)")
			run.Env = append(os.Environ(), weakMask+"="+mask)
			// A test that was left out, or has another name, would hold nothing.
			if out, err := run.CombinedOutput(); err != nil || strings.Count(string(out), "--- PASS") != 7 {
				t.Errorf("over the mask %s: %v\n%s", mask, err, out)
			}
		})
	}
	all.Wait()
}

// weakOnly leaves a test out that has nothing to hold over SHA-256.
func weakOnly(t *testing.T) {
	t.Helper()
	if !isWeak() {
		t.Skip("over a weak digest alone")
	}
}

// Keys with one digest are one key, the one that was set last.
func TestWeakOneKey(t *testing.T) {
	weakOnly(t)
	firsts := map[string]string{}
	for i := range 300 {
		key := fmt.Sprint("key ", i)
		first, ok := firsts[hashOf(key)]
		if !ok {
			firsts[hashOf(key)] = key
			continue
		}
		m := trie.New()
		m.Set(first, "1")
		for _, k := range []string{first, key} {
			if s, there := m.Get(k); s != "1" || !there {
				t.Errorf("M2: %q is %q, but has %q: %t", k, first, s, there)
			}
		}
		m.Set(key, "2")
		if l := m.Keys(); m.Len() != 1 || len(l) != 1 || l[0] != key {
			t.Errorf("M2: %q is %q, which was set last: %q", first, key, l)
		}
		if s, there := m.Get(first); s != "2" || !there {
			t.Errorf("M2: %q is %q, but has %q: %t", first, key, s, there)
		}
		if was, e := m.Remove(first); !was || e != api.OK || m.Len() != 0 || m.Root() != noughts {
			t.Errorf("M1: Remove of %q, which is %q: %t, %d", first, key, was, e)
		}
	}
}

// What is too long is no key, though its digest is that of one.
func TestWeakLong(t *testing.T) {
	weakOnly(t)
	p := numbered(t, 100)
	for n := 201; n < 260; n++ {
		p.tells(strings.Repeat("k", n))
		p.remove(strings.Repeat("k", n))
		p.set(strings.Repeat("k", n), "v")
	}
	p.is("M1: too long")
}

// A Set or Remove works out as many hashes as its way down is long, beside the digests of the key and the value, and the leaf's; all else is kept, but the digest of the key that is asked for, and that of the value which is proved.
func TestWeakCounts(t *testing.T) {
	weakOnly(t)
	r := rand.New(rand.NewSource(9))
	m := trie.New()
	for range 2000 {
		key, way := fmt.Sprint("key ", r.Intn(200)), 0
		most := func(name string, most int, call func()) {
			t.Helper()
			if n := hashesOf(t, call); n > most {
				t.Fatalf("%s: %d hashes for a way of %d", name, n, way)
			}
		}
		before, _ := m.Prove(key)
		if r.Intn(3) == 0 {
			way = len(before.Sides)
			most("Remove", way+1, func() { m.Remove(key) })
		} else {
			n := hashesOf(t, func() { m.Set(key, "v") })
			after, _ := m.Prove(key)
			way = len(after.Sides)
			if n > way+3 {
				t.Fatalf("Set: %d hashes for a way of %d", n, way)
			}
		}
		most("Root", 0, func() { m.Root() })
		most("Len and Keys", 0, func() { m.Len(); m.Keys() })
		most("Clone", 0, func() { m.Clone() })
		most("Get", 1, func() { m.Get(key) })
		most("Prove", 2, func() { m.Prove(key) })
		most("too long", 0, func() { m.Set(strings.Repeat("k", 201), ""); m.Remove(strings.Repeat("k", 201)) })
	}
}
