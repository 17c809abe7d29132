package tile_test

import (
	"encoding/binary"
	"encoding/json"
	"os"
	"os/exec"
	"path/filepath"
	"strings"
	"testing"

	"scrivener/api"
	"scrivener/digest"
	"scrivener/tile"
)

// How many nodes Add works out is not to be seen over SHA-256. So a test here runs once more in a program that is built over another package digest, each of whose nodes is the number of those that were made ahead of it.

const countingDigest = `package digest

import (
	"encoding/binary"

	"scrivener/api"
)

var made uint64

func Empty() string { return string(make([]byte, 32)) }

func Node(left, right string) (string, api.Errno) {
	hash := make([]byte, 32)
	binary.BigEndian.PutUint64(hash[24:], made)
	made++
	return string(hash), api.OK
}

func Sum(parts ...string) string { return "" }

func Leaf(entry string) string { return "" }

func Hex(bytes string) string { return "" }
`

func isCounting() bool { return digest.Sum() == "" }

// nodesMade is how many nodes were made so far, over the counting digest.
func nodesMade(t *testing.T) int {
	t.Helper()
	hash, e := digest.Node(hashOf(""), hashOf(""))
	if e != api.OK {
		t.Fatal(e)
	}
	return int(binary.BigEndian.Uint64([]byte(hash[24:])))
}

// complete is how many subtrees of two leaves or more end where a tree of n leaves does.
func complete(n int) int {
	count := 0
	for size := 2; n%size == 0; size *= 2 {
		count++
	}
	return count
}

func TestCountedNodes(t *testing.T) {
	if !isCounting() {
		t.Skip("over a counting digest alone")
	}
	leaf := strings.Repeat("l", 32)
	for height := 1; height <= 8; height++ {
		x, _ := tile.New(height)
		for n := 1; n <= 3000; n++ {
			before := nodesMade(t)
			if e := x.Add(leaf); e != api.OK {
				t.Fatalf("T2: Add of leaf %d: %d", n-1, e)
			}
			// The count itself made one.
			if made := nodesMade(t) - before - 1; made != complete(n) {
				t.Fatalf("height %d: Add of leaf %d works out %d nodes, not %d", height, n-1, made, complete(n))
			}
		}
		before := nodesMade(t)
		x.Add("odd")
		x.Clone()
		x.Hash(api.Node{Level: 5, Index: 3})
		x.Tile(1, 0)
		x.Leaves(api.Span{End: 3000})
		x.Root(2048)
		if made := nodesMade(t) - before - 1; made != 0 {
			t.Errorf("T6: height %d: %d nodes are worked out that are kept", height, made)
		}
	}
}

// buildCounting builds the tests of this folder over the counting digest.
func buildCounting(t *testing.T) string {
	t.Helper()
	folder := t.TempDir()
	counting, over, program := filepath.Join(folder, "counting.go"), filepath.Join(folder, "over.json"), filepath.Join(folder, "counting.test")
	files, err := filepath.Glob("../digest/*.go")
	if err != nil || len(files) == 0 {
		t.Fatalf("no files of package digest: %v", err)
	}
	replace := map[string]string{}
	for _, f := range files {
		full, err := filepath.Abs(f)
		if err != nil {
			t.Fatal(err)
		}
		replace[full] = ""
		if filepath.Base(f) == "digest.go" {
			replace[full] = counting
		}
	}
	text, err := json.Marshal(map[string]map[string]string{"Replace": replace})
	if err != nil {
		t.Fatal(err)
	}
	for name, content := range map[string]string{counting: countingDigest, over: string(text)} {
		if err := os.WriteFile(name, []byte(content), 0o644); err != nil {
			t.Fatal(err)
		}
	}
	if out, err := exec.Command("go", "test", "-c", "-overlay", over, "-o", program, ".").CombinedOutput(); err != nil {
		t.Fatalf("building over the counting digest: %v\n%s", err, out)
	}
	return program
}

func TestOverCountingDigest(t *testing.T) {
	if isCounting() {
		t.Skip("this is such a run")
	}
	out, err := exec.Command(buildCounting(t), "-test.v", "-test.run", "^TestCountedNodes$").CombinedOutput()
	// A test that was left out would hold nothing.
	if n := strings.Count(string(out), "--- PASS"); err != nil || n != 1 {
		t.Errorf("over a counting digest: %v: %d tests passed\n%s", err, n, out)
	}
}
