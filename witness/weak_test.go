package witness_test

import (
	"encoding/json"
	"math/rand"
	"os"
	"os/exec"
	"path/filepath"
	"slices"
	"strconv"
	"strings"
	"sync"
	"testing"

	"scrivener/api"
	"scrivener/digest"
	"scrivener/verify"
)

// Nobody can show a witness two heads that are not of one log, and a proof from the one to the other: that would be two unlike texts with one SHA-256 digest. So that there are such all the same, a test here runs once more in a program that is built over another package digest, in which nodes have but a few digests, whose number the environment tells. All else has those of SHA-256, so that signatures are what they are.

const weakCount = "SCRIVENER_WEAK"

const weakDigest = `package digest

import (
	"crypto/sha256"
	"os"
	"strconv"
	"strings"

	"scrivener/api"
)

var count, _ = strconv.Atoi(os.Getenv("` + weakCount + `"))

func Sum(parts ...string) string {
	s := strings.Join(parts, "")
	h := sha256.Sum256([]byte(s))
	if len(s) == 65 && s[0] == 1 {
		return strings.Repeat(string([]byte{h[0] % byte(count)}), 32)
	}
	return string(h[:])
}

func Empty() string { return Sum() }

func Leaf(entry string) string { return Sum("\x00", entry) }

func Node(left, right string) (string, api.Errno) {
	if len(left) != 32 || len(right) != 32 {
		return "", api.ErrDigestSize
	}
	return Sum("\x01", left, right), api.OK
}
`

func isWeak() bool {
	text := "\x01" + bytesOf(1, 64)
	return digest.Sum(text) != hashOf(text)
}

// buildWeak builds the tests of this folder over the weak digest.
func buildWeak(t *testing.T) string {
	t.Helper()
	folder := t.TempDir()
	weak, over, program := filepath.Join(folder, "weak.go"), filepath.Join(folder, "over.json"), filepath.Join(folder, "weak.test")
	replace := map[string]string{}
	for name, by := range map[string]string{"digest.go": weak, "block.go": ""} {
		full, err := filepath.Abs(filepath.Join("../digest", name))
		if err != nil {
			t.Fatal(err)
		}
		replace[full] = by
	}
	text, err := json.Marshal(map[string]map[string]string{"Replace": replace})
	if err != nil {
		t.Fatal(err)
	}
	for name, content := range map[string]string{weak: weakDigest, over: string(text)} {
		if err := os.WriteFile(name, []byte(content), 0o644); err != nil {
			t.Fatal(err)
		}
	}
	if out, err := exec.Command("go", "test", "-c", "-overlay", over, "-o", program, ".").CombinedOutput(); err != nil {
		t.Fatalf("building over the weak digest: %v\n%s", err, out)
	}
	return program
}

func TestOverWeakDigests(t *testing.T) {
	if isWeak() {
		t.Skip("this is such a run")
	}
	program := buildWeak(t)
	var all sync.WaitGroup
	for _, count := range []int{1, 2, 3} {
		all.Go(func() {
			run := exec.Command(program, "-test.v", "-test.run", "^TestWeakTwoFaces$")
			run.Env = append(os.Environ(), weakCount+"="+strconv.Itoa(count))
			// A test that was left out, or has another name, would hold nothing.
			if out, err := run.CombinedOutput(); err != nil || strings.Count(string(out), "--- PASS") != 1 {
				t.Errorf("over %d digests: %v\n%s", count, err, out)
			}
		})
	}
	all.Wait()
}

// forged is a proof between two heads that may be of two logs, if one is found.
func forged(r *rand.Rand, from, to api.Head) []string {
	n, e := verify.ProofLen(from.Size, to.Size)
	for range 100 {
		proof := make([]string, n)
		for i := range proof {
			proof[i] = strings.Repeat(string([]byte{byte(r.Intn(5))}), 32)
		}
		if e == api.OK && verify.Consistency(from.Size, to.Size, from.Root, to.Root, proof) == api.OK {
			return proof
		}
	}
	return nil
}

// Whoever has two heads that a witness has signed, and are not of one log, has two unlike texts with one digest.
func TestWeakTwoFaces(t *testing.T) {
	if !isWeak() {
		t.Skip("over a weak digest alone")
	}
	r := rand.New(rand.NewSource(5))
	l := logOf(t, "log", 1, 7)
	own := handOf(t, 2, 8)
	var found [8]int
	for own.s.Left() > 6 {
		p := made(t, "w", own)
		p.watch(l.known())
		x := &row{T: t, log: l}
		face := string([]byte{'a' + byte(r.Intn(20)), 'a' + byte(r.Intn(20)), 'a' + byte(r.Intn(20))})
		last := headOf(face, 0)
		for last.Size < longest && len(x.steps) < 6 {
			h := headOf(face, min(max(2, last.Size)+r.Intn(4), longest))
			if r.Intn(2) == 0 {
				h.Root = strings.Repeat(string([]byte{byte(r.Intn(3))}), 32)
			}
			proof := forged(r, last, h)
			if right := proofOf(face, last.Size, h.Size); proof == nil && last.Size > 0 {
				proof = right
			}
			text, e := p.see(printed(t, l.of(h)), proof)
			if e == api.OK {
				x.take(p.known("w"), text, h, proof)
				last = h
			}
			if r.Intn(3) == 0 {
				p.load()
			}
		}
		for i, n := range x.holds(leavesOf(face, longest)) {
			found[i] += n
		}
	}
	// Each pair of unlike heads was joined by proofs that were accepted: at once, and over heads between them.
	if slices.Contains(found[:3], 0) {
		t.Errorf("W5: so many pairs were found, so many steps below: %v", found)
	}
}
