package note_test

import (
	"math/rand"
	"slices"
	"strconv"
	"strings"
	"testing"

	"scrivener/api"
	"scrivener/note"
)

// What follows: N6.

// Parse of Print is the note.
func TestParseOfPrint(t *testing.T) {
	r := rand.New(rand.NewSource(11))
	for range 500 {
		n := someNote(r)
		s, e := note.Print(n)
		if e != api.OK {
			t.Fatalf("N6: Print of %s: %d", short(n), e)
		}
		x, e, at := note.Parse(s)
		if !sameNote(x, n) || e != api.OK || at != 0 {
			t.Fatalf("N6: Parse of Print of %s: %s, %d, line %d", short(n), short(x), e, at)
		}
		body, _ := note.Body(n)
		if !strings.HasPrefix(s, body+"\n") || strings.Count(s, "\n") != 4+len(n.Signatures) {
			t.Fatalf("N6: %s: no body with a line for each signature behind it: %q", short(n), s)
		}
	}
}

// Print of what Parse told is the text, whatever text it took.
func TestPrintOfParse(t *testing.T) {
	r := rand.New(rand.NewSource(12))
	taken, refused := 0, 0
	for range 300 {
		n := someNote(r)
		for i := range n.Signatures {
			n.Signatures[i].Data = n.Signatures[i].Data[:1]
		}
		s, _ := note.Print(n)
		for range 50 {
			at := r.Intn(len(s))
			twisted := s[:at] + string([]byte{"ab019./-= AZ+\n"[r.Intn(14)]}) + s[at+r.Intn(2):]
			x, e, line := note.Parse(twisted)
			if e != api.OK {
				refused++
				if line < 1 || line > strings.Count(twisted, "\n")+1 {
					t.Fatalf("N2: Parse(%q): line %d", twisted, line)
				}
				continue
			}
			taken++
			if again, e := note.Print(x); again != twisted || e != api.OK {
				t.Fatalf("N6: Print of Parse of %q: %q, %d", twisted, again, e)
			}
		}
	}
	if taken < 500 || refused < 500 {
		t.Errorf("N6: %d texts were taken, %d refused", taken, refused)
	}
}

// Whatever stands ahead of the line that is told hangs on nothing behind it.
func TestLineHangsOnWhatIsAhead(t *testing.T) {
	r := rand.New(rand.NewSource(13))
	lines := lineTexts()
	for range 3000 {
		l := []string{"log", "5", noughts, "", "- b ZGI=", "- c ZGI="}
		l[r.Intn(len(l))] = lines[r.Intn(len(lines))]
		_, e, at := note.Parse(strings.Join(l, "\n") + "\n")
		if e == api.OK {
			continue
		}
		ahead := strings.Join(l[:at-1], "\n")
		if at > 1 {
			ahead += "\n"
		}
		for _, behind := range []string{"", "x", "\n\n\n", "- z ZGI=\n", "\xff"} {
			if _, _, again := note.Parse(ahead + l[at-1] + "\n" + behind); again != at {
				t.Errorf("N2: %q: line %d, but %d with %q behind it", l, at, again, behind)
			}
		}
		// What is ahead of it is the beginning of a note's text.
		if _, e, again := note.Parse(ahead); (at <= 4 || e != api.OK) && again != at {
			t.Errorf("N2: %q: line %d, but ahead of it %d", l, at, again)
		}
	}
}

// What Sign made Check takes, also when it was printed and read, and merged with others of that body without that name.
func TestCheckOfSign(t *testing.T) {
	r := rand.New(rand.NewSource(14))
	var hands []hand
	for i := range 6 {
		hands = append(hands, handOf(t, i, i+2))
	}
	takes := func(n api.Note, keys map[string]api.Known) {
		t.Helper()
		for name, k := range keys {
			if e := note.Check(n, k); e != api.OK {
				t.Fatalf("N6: %s, signed by %q: %d", short(n), name, e)
			}
		}
	}
	signed, merged := 0, 0
	for range 60 {
		n := someNote(r)
		n.Signatures = someSignatures(r, 6)
		keys := map[string]api.Known{}
		for range 4 {
			h, name := hands[r.Intn(len(hands))], someName(r, 1+r.Intn(3))
			x, e := h.sign(n, name)
			if e == api.ErrSignerUsed {
				continue
			}
			if e != api.OK {
				t.Fatalf("N6: Sign: %d", e)
			}
			n, keys[name] = x, h.known(name)
			takes(n, keys)
			signed++
		}
		s, _ := note.Print(n)
		read, _, _ := note.Parse(s)
		takes(read, keys)
		for range 5 {
			other := api.Note{Origin: n.Origin, Head: n.Head, Signatures: slices.DeleteFunc(someSignatures(r, 8), func(s api.Signature) bool {
				return keys[s.Name].Name != ""
			})}
			for _, pair := range [][2]api.Note{{read, other}, {other, n}} {
				m, e := note.Merge(pair[0], pair[1])
				if e == api.ErrNoteMany {
					continue
				}
				takes(m, keys)
				merged++
			}
		}
	}
	if signed < 80 || merged < 200 {
		t.Errorf("N6: only %d signatures, and %d notes were merged", signed, merged)
	}
}

// Merge is the same in any order, but for what both have; and of one note with itself it is that note.
func TestMergeInAnyOrder(t *testing.T) {
	r := rand.New(rand.NewSource(15))
	for range 300 {
		n := someNote(r)
		if m, e := note.Merge(n, n); !sameNote(m, n) || e != api.OK {
			t.Fatalf("N5: Merge of %s with itself: %s, %d", short(n), short(m), e)
		}
		bare := n
		bare.Signatures = nil
		all := bare
		for i := range n.Signatures {
			one := bare
			one.Signatures = n.Signatures[len(n.Signatures)-1-i:][:1]
			all, _ = note.Merge(one, all)
		}
		if !sameNote(all, n) {
			t.Fatalf("N5: %s, put together: %s", short(n), short(all))
		}
		i := 0
		if len(n.Signatures) > 0 {
			i = r.Intn(len(n.Signatures))
		}
		one, two := bare, bare
		one.Signatures, two.Signatures = n.Signatures[:i], n.Signatures[i:]
		a, _ := note.Merge(one, two)
		b, _ := note.Merge(two, one)
		if !sameNote(a, n) || !sameNote(b, n) {
			t.Fatalf("N5: %s, parted at %s: %s, %s", short(n), strconv.Itoa(i), short(a), short(b))
		}
	}
}
