package witness_test

import (
	"math/rand"
	"runtime"
	"slices"
	"strings"
	"sync"
	"testing"
	"time"
	"unsafe"

	"scrivener/api"
	"scrivener/note"
	"scrivener/signer"
	"scrivener/witness"
)

// A proof is not written into, nor its spare room, and what is written into it later changes nothing.
func TestListsAreNotWrittenNorKept(t *testing.T) {
	a := logOf(t, "a", 1, 4)
	p := made(t, "w", handOf(t, 2, 4))
	p.watch(a.known())
	p.see(a.says(face, 3), nil)
	for _, c := range []struct {
		size  int
		proof []string
		e     api.Errno
	}{
		{5, proofOf(face, 3, 5), api.OK}, {5, nil, api.OK}, {5, proofOf(face, 3, 5), api.ErrWitnessProof}, {7, proofOf(face, 3, 7), api.ErrWitnessProof}, {7, proofOf(face, 5, 7), api.OK}, {4, proofOf(face, 4, 7), api.ErrWitnessOld}, {9, proofOf(face, 7, 9), api.OK},
	} {
		roomy := slices.Concat(c.proof, []string{"spare", "room"})
		was := slices.Clone(roomy)
		proof := roomy[:len(c.proof)]
		if _, e := p.see(a.says(face, c.size), proof); e != c.e {
			t.Errorf("W3: the size %d: %d, want %d", c.size, e, c.e)
		}
		if !slices.Equal(roomy, was) {
			t.Errorf("R2: a proof of %d hashes was written into", len(c.proof))
		}
		for i := range roomy {
			roomy[i] = "over"
		}
		p.is("R2")
	}
}

func TestListsAreNew(t *testing.T) {
	p := made(t, "w", handOf(t, 2, 0))
	var all [][]string
	for i, name := range numbered(16) {
		p.watch(api.Known{Name: name, Key: bytesOf(i, 32)})
		one, two := p.w.Logs(), p.w.Logs()
		for _, l := range [][]string{one, two} {
			l = l[:cap(l)]
			for i := range l {
				l[i] = "over"
			}
		}
		p.is("R2")
		all = append(all, p.w.Logs())
	}
	p.load()
	for i, l := range all {
		if !slices.Equal(l, numbered(16)[:i+1]) {
			t.Errorf("R2: a list that came out was written into: %q", l)
		}
	}
}

// within tells whether a text is a piece of a longer one.
func within(piece, long string) bool {
	from, at := uintptr(unsafe.Pointer(unsafe.StringData(long))), uintptr(unsafe.Pointer(unsafe.StringData(piece)))
	return from <= at && at < from+uintptr(len(long))
}

// A witness keeps no text of which something that it knows is a piece.
func TestPiecesAreCopied(t *testing.T) {
	long := strings.Repeat("a long text, of which one needs but a few bytes", 1000)
	w, _ := witness.New("w", nil)
	w.Watch(api.Known{Name: long[7:11], Key: long[100:132]})
	saved := w.Saved()
	x, _ := witness.Load("w", nil, saved)
	for _, l := range [][]string{w.Logs(), x.Logs()} {
		if len(l) != 1 || l[0] != "text" || within(l[0], long) || within(l[0], saved) {
			t.Errorf("R2: an origin that is kept is a piece of a longer text: %q", l)
		}
	}
	if h, _ := x.Head("text"); within(h.Root, saved) {
		t.Error("R2: a root that is kept is a piece of what was loaded")
	}
}

// Asking changes nothing: neither what is known, nor what is signed next.
func TestAskingChangesNothing(t *testing.T) {
	a := logOf(t, "a", 1, 4)
	p := made(t, "w", handOf(t, 2, 4))
	p.watch(a.known())
	for size := 1; size < 8; size++ {
		for range 3 {
			p.w.Head("a")
			p.w.Head("b")
			p.w.Logs()
			if s := p.w.Saved(); s != p.w.Saved() {
				t.Fatalf("W4: Saved tells %q, then something else", s)
			}
		}
		proof := proofOf(face, size-1, size)
		if _, e := p.see(a.says(face, size), proof); e != api.OK {
			t.Errorf("W3: the size %d: %d", size, e)
		}
	}
}

// Two witnesses do not disturb one another, though they have one name and know the same logs.
func TestWitnessesDoNotDisturb(t *testing.T) {
	r := rand.New(rand.NewSource(6))
	l := logOf(t, "log", 1, 6)
	var all []*played
	for i := range 4 {
		p := made(t, "w", handOf(t, 2+i, 5))
		p.watch(l.known())
		all = append(all, p)
	}
	for range 60 {
		p := all[r.Intn(4)]
		h, _ := p.w.Head("log")
		face := []string{face, other}[r.Intn(2)]
		size := min(h.Size+r.Intn(3), 12)
		p.see(l.says(face, size), proofOf(face, h.Size, size))
		for _, q := range all {
			q.is("R2")
		}
	}
}

// Many show two faces to a witness, all at once: it stands for one, and each of its keys signs once.
func TestSeenAtOnce(t *testing.T) {
	l := logOf(t, "log", 1, 5)
	faces := []string{face, other}
	texts := [2][]string{}
	for i, f := range faces {
		for size := range 6 {
			texts[i] = append(texts[i], l.says(f, size+3))
		}
	}
	for round := range 8 {
		h := handOf(t, 2+round, 6)
		key := h.s.Key()
		w, _ := witness.New("w", h.s)
		signed := make([][]string, 8)
		var all sync.WaitGroup
		for i := range signed {
			all.Go(func() {
				w.Watch(l.known())
				for size := range 6 {
					f := (i + size) % 2
					from, _ := w.Head("log")
					var proof []string
					if from.Size > 0 && from.Size != size+3 {
						proof = proofOf(faces[f], from.Size, size+3)
					}
					if text, e := w.See(texts[f][size], proof); e == api.OK {
						signed[i] = append(signed[i], text)
					}
					w.Logs()
					witness.Load("w", nil, w.Saved())
				}
			})
		}
		all.Wait()
		isOneFace(t, slices.Concat(signed...), api.Known{Name: "w", Key: key})
	}
}

// isOneFace holds what was signed to one of the two faces, and to a key each.
func isOneFace(t *testing.T, signed []string, own api.Known) {
	t.Helper()
	seen, spent := map[string]int{}, map[int]int{}
	for _, text := range signed {
		n, _, _ := note.Parse(text)
		if e := note.Check(n, own); e != api.OK {
			t.Errorf("W3: asked by many: %d", e)
		}
		for _, f := range []string{face, other} {
			if n.Head == headOf(f, n.Head.Size) {
				seen[f]++
			}
		}
		for _, s := range n.Signatures {
			if i, _ := signer.Index(s.Data); s.Name == own.Name {
				spent[i]++
			}
		}
	}
	if len(signed) == 0 || len(seen) != 1 || len(spent) != len(signed) {
		t.Errorf("W5: asked by many: of %d notes that were signed so many are of each face: %v; %d keys were spent", len(signed), seen, len(spent))
	}
}

func TestWatchedAtOnce(t *testing.T) {
	names, key := numbered(48), bytesOf(1, 32)
	for range 300 {
		w, _ := witness.New("w", nil)
		taken := make([]int, 8)
		start := make(chan int)
		var all sync.WaitGroup
		for i := range taken {
			all.Go(func() {
				<-start
				for j := range 6 {
					if w.Watch(api.Known{Name: names[8*j+i], Key: key}) == api.OK {
						taken[i]++
					}
				}
			})
		}
		close(start)
		all.Wait()
		sum := 0
		for _, n := range taken {
			sum += n
		}
		if l := w.Logs(); sum != 16 || len(l) != 16 || !slices.IsSorted(l) || isLoad(t, w.Saved()) != api.OK {
			t.Fatalf("W2: watched by many: %d were taken: %q", sum, l)
		}
	}
}

func TestGoroutinesHaveEnded(t *testing.T) {
	before := runtime.NumGoroutine()
	a := logOf(t, "a", 1, 4)
	p := made(t, "w", handOf(t, 2, 4))
	p.watch(a.known())
	for size := range 6 {
		p.see(a.says(face, size), proofOf(face, size-1, size))
	}
	p.load()
	for range 1000 {
		if runtime.NumGoroutine() <= before {
			return
		}
		time.Sleep(time.Millisecond)
	}
	t.Errorf("R2: %d goroutines were there, now %d", before, runtime.NumGoroutine())
}
