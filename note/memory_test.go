package note_test

import (
	"math/rand"
	"runtime"
	"slices"
	"strconv"
	"testing"
	"time"

	"scrivener/api"
	"scrivener/note"
)

var spare = api.Signature{Name: "spare", Data: "room"}

// roomy is a note whose list has spare room, which is filled.
func roomy(n api.Note) api.Note {
	l := slices.Concat(n.Signatures, slices.Repeat([]api.Signature{spare}, 5))
	n.Signatures = l[:len(n.Signatures)]
	return n
}

// isRoomy tells whether such a note and the spare room are as they were.
func isRoomy(n, was api.Note) bool {
	all := n.Signatures[:len(n.Signatures)+5]
	return sameNote(n, was) && !slices.ContainsFunc(all[len(n.Signatures):], func(s api.Signature) bool { return s != spare })
}

// overwrite writes into a note's list and all its spare room.
func overwrite(n api.Note) {
	l := n.Signatures[:cap(n.Signatures)]
	for i := range l {
		l[i] = api.Signature{Name: "over", Data: "written"}
	}
}

// beside is a note of the same body, with others' signatures, some of the same names.
func beside(r *rand.Rand, n api.Note) api.Note {
	n.Signatures = someSignatures(r, 6)
	return n
}

// What is handed in is not written into, nor its spare room, whether it is refused or not.
func TestListsAreNotWritten(t *testing.T) {
	r := rand.New(rand.NewSource(21))
	h := handOf(t, 1, 8)
	done := map[api.Errno]int{}
	for range 500 {
		was := someNote(r)
		other := beside(r, was)
		if r.Intn(4) == 0 {
			was.Signatures = append(was.Signatures, was.Signatures...)
		}
		n, m := roomy(was), roomy(other)
		note.Body(n)
		note.Print(n)
		note.Check(n, h.known(someName(r, 2)))
		_, e := note.Merge(n, m)
		done[e]++
		note.Merge(m, n)
		if r.Intn(4) == 0 {
			_, e := note.Sign(n, someName(r, 2), h.s)
			done[e]++
		}
		if !isRoomy(n, was) || !isRoomy(m, other) {
			t.Fatalf("R2: %s was written into: %s", short(was), short(n))
		}
	}
	if done[api.OK] < 50 || done[api.ErrNoteField] < 20 || done[api.ErrNoteMany] < 20 {
		t.Errorf("R2: outcomes: %v", done)
	}
}

// What comes out shares no memory with what was handed in, nor with what came out of another call.
func TestListsAreNew(t *testing.T) {
	r := rand.New(rand.NewSource(22))
	h := handOf(t, 1, 8)
	for range 200 {
		was := someNote(r)
		was.Signatures = was.Signatures[:min(len(was.Signatures), 8)]
		other := beside(r, was)
		if r.Intn(4) == 0 {
			other.Signatures = nil
		}
		n, m := roomy(was), roomy(other)
		want, _ := slowMerge(was, other)
		one, _ := note.Merge(n, m)
		two, _ := note.Merge(n, m)
		overwrite(two)
		if !sameNote(one, want) || !isRoomy(n, was) || !isRoomy(m, other) {
			t.Fatalf("R2: Merge(%s, %s) shares memory", short(was), short(other))
		}
		s, _ := note.Print(n)
		first, _, _ := note.Parse(s)
		second, _, _ := note.Parse(s)
		overwrite(second)
		if !sameNote(first, was) {
			t.Fatalf("R2: Parse: two lists of %s share memory", short(was))
		}
		name := "a"
		if len(was.Signatures) > 0 && r.Intn(2) == 0 {
			name = was.Signatures[r.Intn(len(was.Signatures))].Name
		}
		signed, e := note.Sign(n, name, h.s)
		if e != api.OK {
			t.Fatalf("N3: Sign: %d", e)
		}
		kept := slices.Clone(signed.Signatures)
		overwrite(n)
		overwrite(m)
		if !slices.Equal(signed.Signatures, kept) || !sameNote(one, want) {
			t.Fatalf("R2: what came out of %s hangs on what was handed in", short(was))
		}
		n = roomy(was)
		signed, _ = note.Sign(n, name, h.s)
		overwrite(signed)
		overwrite(one)
		if !isRoomy(n, was) {
			t.Fatalf("R2: Sign: what came out of %s shares memory with it", short(was))
		}
		if h.s.Left() < 2 {
			h = handOf(t, 1, 8)
		}
	}
}

// What is answered does not hang on what was asked ahead of it.
func TestNothingIsKept(t *testing.T) {
	r := rand.New(rand.NewSource(23))
	h := handOf(t, 1, 3)
	n, _ := h.sign(with("a", "c"), "b")
	for range 300 {
		other := someNote(r)
		s, _ := isPrint(t, other)
		isParse(t, s)
		isParse(t, s[:r.Intn(len(s))])
		isCheck(t, other, h.known("b"))
		isMerge(t, n, other)
		isMerge(t, n, beside(r, n))
		s, _ = isPrint(t, n)
		isParse(t, s)
		if isCheck(t, n, h.known("b")) != api.OK {
			t.Fatal("R2: what was answered once is answered otherwise now")
		}
	}
}

// A note that is refused leaves the signer and its device as they were.
func TestRefusedSpendsNothing(t *testing.T) {
	r := rand.New(rand.NewSource(24))
	h := handOf(t, 1, 2)
	for range 200 {
		n := someNote(r)
		spoils()[r.Intn(3)].spoil(&n)
		if _, e := h.sign(n, "a"); e != api.ErrNoteField {
			t.Fatalf("N3: %s: %d", short(n), e)
		}
		h.sign(someNote(r), "A")
	}
	if h.s.Left() != 4 {
		t.Errorf("N3: %d keys are left", h.s.Left())
	}
	if _, e := h.sign(plain(5), "a"); e != api.OK {
		t.Errorf("N3: then one that may be: %d", e)
	}
}

func TestGoroutinesHaveEnded(t *testing.T) {
	before := runtime.NumGoroutine()
	h := handOf(t, 1, 5)
	n := plain(5)
	for i := range 20 {
		n, _ = note.Sign(n, "n"+strconv.Itoa(i), h.s)
		note.Check(n, h.known("n0"))
		s, _ := note.Print(n)
		note.Parse(s)
		note.Merge(n, plain(5))
	}
	for range 1000 {
		if runtime.NumGoroutine() <= before {
			return
		}
		time.Sleep(time.Millisecond)
	}
	t.Errorf("R2: %d goroutines were there, now %d", before, runtime.NumGoroutine())
}

func TestCallsAtOnce(t *testing.T) {
	shared := handOf(t, 9, 2)
	n, _ := shared.sign(with("a", "c"), "b")
	known := shared.known("b")
	t.Run("at once", func(t *testing.T) {
		for i := range 8 {
			t.Run(strconv.Itoa(i), func(t *testing.T) {
				t.Parallel()
				r := rand.New(rand.NewSource(int64(i)))
				h := handOf(t, i, 3)
				for range 8 {
					if isCheck(t, n, known) != api.OK {
						t.Error("R2: checked by many at once: it is refused")
					}
					s, _ := isPrint(t, n)
					isParse(t, s)
					isMerge(t, n, beside(r, n))
					own, _ := h.sign(n, "own")
					isMerge(t, n, own)
				}
			})
		}
	})
}
