package witness_test

import (
	"math/rand"
	"slices"
	"strconv"
	"strings"
	"testing"

	"scrivener/api"
	"scrivener/note"
	"scrivener/signer"
	"scrivener/witness"
)

const (
	face  = "a"
	other = "b"
)

func TestExamples(t *testing.T) {
	a := logOf(t, "a", 1, 3)
	p := made(t, "w", handOf(t, 2, 3))
	if _, e := p.see(a.says(face, 5), nil); e != api.ErrWitnessLog {
		t.Errorf("example 1: a log that is not known: %d", e)
	}
	if e := p.watch(a.known()); e != api.OK {
		t.Errorf("example 1: Watch: %d", e)
	}
	text, e := p.see(a.says(face, 5), nil)
	n, f, _ := note.Parse(text)
	if e != api.OK || f != api.OK || len(n.Signatures) != 2 || note.Check(n, a.known()) != api.OK || note.Check(n, p.known("w")) != api.OK {
		t.Errorf("example 1: of size 5: %d, %d, %d signatures", e, f, len(n.Signatures))
	}
	if h, e := p.w.Head("a"); h != headOf(face, 5) || e != api.OK {
		t.Errorf("example 1: Head: %d, %d", h.Size, e)
	}
	for i, c := range []struct {
		text  string
		proof []string
		e     api.Errno
	}{
		{a.says(face, 7), proofOf(face, 5, 7), api.OK}, {a.says(face, 5), nil, api.ErrWitnessOld}, {a.says(other, 7), nil, api.ErrWitnessFork},
	} {
		if _, e := p.see(c.text, c.proof); e != c.e {
			t.Errorf("example 1: line %d: %d, want %d", i, e, c.e)
		}
	}
	w, e := witness.Load("w", p.s, p.w.Saved())
	if e != api.OK {
		t.Fatalf("example 2: Load: %d", e)
	}
	if h, e := w.Head("a"); h.Size != 7 || e != api.OK {
		t.Errorf("example 2: Head: %d, %d", h.Size, e)
	}
}

func TestNames(t *testing.T) {
	h := handOf(t, 1, 0)
	saved := slowSaved(nil)
	for _, name := range rightNames() {
		p := made(t, name, h)
		if _, e := witness.New(name, h.s); e != api.OK {
			t.Errorf("W1: New(%q): %d", name, e)
		}
		if _, e := witness.Load(name, h.s, saved); e != api.OK {
			t.Errorf("W1: Load(%q): %d", name, e)
		}
		if e := p.watch(api.Known{Name: name, Key: bytesOf(1, 32)}); e != api.OK {
			t.Errorf("W2: Watch(%q): %d", name, e)
		}
	}
	p := made(t, "w", h)
	for _, name := range oddNames() {
		if w, e := witness.New(name, h.s); w != nil || e != api.ErrArg {
			t.Errorf("W1: New(%q): %d", name, e)
		}
		// A name is told ahead of what is saved.
		for _, s := range []string{saved, ""} {
			if w, e := witness.Load(name, h.s, s); w != nil || e != api.ErrArg {
				t.Errorf("W1: Load(%q): %d", name, e)
			}
		}
		if e := p.watch(api.Known{Name: name, Key: bytesOf(1, 32)}); e != api.ErrArg {
			t.Errorf("W2: Watch(%q): %d", name, e)
		}
	}
}

func TestWatch(t *testing.T) {
	p := made(t, "w", handOf(t, 1, 2))
	key, another := bytesOf(1, 32), bytesOf(2, 32)
	for _, bytes := range []int{0, 1, 31, 33, 64, 1000} {
		if e := p.watch(api.Known{Name: "a", Key: bytesOf(1, bytes)}); e != api.ErrArg {
			t.Errorf("W2: a key of %d bytes: %d", bytes, e)
		}
	}
	// From both ends, so that each comes to stand at another place.
	names := numbered(16)
	for i := range names {
		name := names[i/2]
		if i%2 == 1 {
			name = names[15-i/2]
		}
		for _, c := range []struct {
			key string
			e   api.Errno
		}{{key, api.OK}, {key, api.OK}, {another, api.ErrWitnessLog}, {key[:31] + "x", api.ErrWitnessLog}, {"x", api.ErrArg}} {
			if e := p.watch(api.Known{Name: name, Key: c.key}); e != c.e {
				t.Errorf("W2: %q, the %dth: %d, want %d", name, i+1, e, c.e)
			}
		}
	}
	for _, c := range []struct {
		k api.Known
		e api.Errno
	}{
		{api.Known{Name: "n-0", Key: key}, api.ErrWitnessMany}, {api.Known{Name: "n-07.", Key: key}, api.ErrWitnessMany}, {api.Known{Name: "z", Key: another}, api.ErrWitnessMany},
		{api.Known{Name: "N", Key: key}, api.ErrArg}, {api.Known{Name: "n-16", Key: "x"}, api.ErrArg},
		{api.Known{Name: "n-15", Key: key}, api.OK}, {api.Known{Name: "n-00", Key: another}, api.ErrWitnessLog},
	} {
		if e := p.watch(c.k); e != c.e {
			t.Errorf("W2: of sixteen, %q: %d, want %d", c.k.Name, e, c.e)
		}
	}
	p.load()
	if e := p.watch(api.Known{Name: "z", Key: key}); e != api.ErrWitnessMany {
		t.Errorf("W2: of sixteen that were loaded: %d", e)
	}
}

// A log that is watched again stays where it was.
func TestWatchAgain(t *testing.T) {
	a := logOf(t, "a", 1, 2)
	p := made(t, "w", handOf(t, 2, 2))
	p.watch(a.known())
	p.see(a.says(face, 5), nil)
	p.watch(a.known())
	p.watch(api.Known{Name: "a", Key: bytesOf(1, 32)})
	if h, _ := p.w.Head("a"); h != headOf(face, 5) {
		t.Errorf("W2: watched again: %d", h.Size)
	}
	if _, e := p.see(a.says(face, 4), nil); e != api.ErrWitnessOld {
		t.Errorf("W2: watched again: %d", e)
	}
}

// Whatever is wrong behind it: the error that the promise names first is told, and nothing is changed.
func TestErrorsInTheirOrder(t *testing.T) {
	a := logOf(t, "a", 1, 3)
	p := made(t, "w", handOf(t, 2, 3))
	p.watch(a.known())
	p.see(a.says(face, 5), nil)
	right := a.of(headOf(face, 7))
	full := func(h api.Head, spoilt bool) string {
		n := with(a.of(h), others(numbered(15)...)...)
		if spoilt {
			n.Signatures[0].Data = right.Signatures[0].Data
		}
		return printed(t, n)
	}
	unknown := with(api.Note{Origin: "b", Head: headOf(other, 4)}, others(numbered(16)...)...)
	unsigned := with(api.Note{Origin: "a", Head: headOf(other, 4)}, others(numbered(16)...)...)
	wrong := proofOf(other, 5, 7)
	p.arm(1)
	p.d.Flush()
	p.twinOf.Flush()
	for _, c := range []struct {
		text  string
		proof []string
		e     api.Errno
	}{
		{"", wrong, api.ErrNoteForm}, {printed(t, unknown) + "\n", wrong, api.ErrNoteForm}, {printed(t, unsigned)[1:], wrong, api.ErrNoteForm},
		{printed(t, unknown), wrong, api.ErrWitnessLog}, {printed(t, unsigned), wrong, api.ErrWitnessNote},
		{full(headOf(other, 4), true), wrong, api.ErrWitnessNote}, {full(headOf(other, 4), false), wrong, api.ErrWitnessOld}, {full(headOf(face, 0), false), nil, api.ErrWitnessOld},
		{full(headOf(other, 5), false), wrong, api.ErrWitnessFork}, {full(headOf(face, 5), false), wrong, api.ErrWitnessProof}, {full(headOf(face, 7), false), wrong, api.ErrWitnessProof},
		{full(headOf(face, 7), false), nil, api.ErrWitnessProof}, {full(headOf(face, 7), false), proofOf(face, 5, 7), api.ErrNoteMany}, {full(headOf(face, 5), false), nil, api.ErrNoteMany},
		{a.says(face, 7), proofOf(face, 5, 7), api.ErrDead}, {a.says(face, 5), nil, api.ErrDead},
	} {
		if _, e := p.see(c.text, c.proof); e != c.e {
			t.Errorf("W3: See(%.40q, %d hashes): %d, want %d", c.text, len(c.proof), e, c.e)
		}
	}
	p.revive(t, 0)
	p.load()
	if _, e := p.see(a.says(face, 7), proofOf(face, 5, 7)); e != api.OK || p.s.Left() != 6 {
		t.Errorf("W3: behind all that was refused: %d, %d keys are left", e, p.s.Left())
	}
}

// What no note is, is refused as layer 22 does, and spends nothing.
func TestNoNotes(t *testing.T) {
	a := logOf(t, "a", 1, 0)
	p := made(t, "w", handOf(t, 2, 1))
	p.watch(a.known())
	s := a.says(face, 5)
	for i := range len(s) {
		at := s[i:]
		for _, text := range []string{s[:i], s[:i] + at[1:], s[:i] + "A" + at, s[:i] + " " + at[1:], s[:i] + "\n" + at} {
			if text == s || i > 60 && i%200 > 0 && i < len(s)-3 {
				continue
			}
			if _, e := p.see(text, nil); e == api.OK {
				t.Fatalf("W3: a note that was spoilt at %d is signed", i)
			}
		}
	}
	if _, e := p.see(s, nil); e != api.OK {
		t.Errorf("W3: the whole: %d", e)
	}
}

// A note must be signed by the log, by its name, with its key, as it stands.
func TestNotesOfOthers(t *testing.T) {
	a, b := logOf(t, "a", 1, 4), logOf(t, "b", 3, 4)
	p := made(t, "w", handOf(t, 2, 4))
	p.watch(a.known())
	p.watch(b.known())
	h := headOf(face, 5)
	sign := func(origin, name string, s *signer.Signer) api.Note {
		n, e := note.Sign(api.Note{Origin: origin, Head: h}, name, s)
		if e != api.OK {
			t.Fatalf("no note: %d", e)
		}
		return n
	}
	own, _ := signer.Open(handOf(t, 2, 4).d)
	moved := a.of(h)
	moved.Head = headOf(face, 6)
	renamed := a.of(h)
	renamed.Origin = "b"
	for i, c := range []struct {
		n api.Note
		e api.Errno
	}{
		{api.Note{Origin: "a", Head: h}, api.ErrWitnessNote}, {sign("a", "b", b.s), api.ErrWitnessNote}, {sign("a", "a", b.s), api.ErrWitnessNote}, {sign("a", "b", a.s), api.ErrWitnessNote}, {sign("a", "w", own), api.ErrWitnessNote},
		{moved, api.ErrWitnessNote}, {renamed, api.ErrWitnessNote}, {with(api.Note{Origin: "a", Head: h}, others("a")...), api.ErrWitnessNote},
		{sign("c", "a", a.s), api.ErrWitnessLog}, {sign("c", "c", a.s), api.ErrWitnessLog},
		{with(a.of(h), others("b", "x")...), api.OK}, {b.of(h), api.OK}, {a.of(h), api.OK},
	} {
		if _, e := p.see(printed(t, c.n), nil); e != c.e {
			t.Errorf("W3: line %d: %d, want %d", i, e, c.e)
		}
	}
}

// All pairs of sizes: the right proof alone goes on, and only upwards.
func TestSizesAndProofs(t *testing.T) {
	a := logOf(t, "a", 1, 6)
	own := handOf(t, 2, 8)
	for from := range 10 {
		for to := range 10 {
			p := made(t, "w", own)
			p.watch(a.known())
			if from > 0 {
				// One that stands there already.
				p.m.logs["a"] = watched{a.s.Key(), headOf(face, from)}
				w, e := witness.Load("w", p.s, slowSaved(p.m.logs))
				if e != api.OK {
					t.Fatalf("W1: Load: %d", e)
				}
				p.w = w
			}
			for i, proof := range proofsAround(from, to) {
				if _, e := p.see(a.says(face, to), proof); e == api.OK {
					t.Fatalf("W3: from %d to %d: the wrong proof %d is taken", from, to, i)
				}
			}
			right := proofOf(face, from, to)
			if from == 0 || from >= to {
				right = nil
			}
			if _, e := p.see(a.says(other, to), right); e == api.OK && from > 0 || e != api.OK && from == 0 && to > 0 {
				t.Fatalf("W3: from %d to %d of another face: %d", from, to, e)
			}
			if from == 0 && to > 0 {
				continue
			}
			if _, e := p.see(a.says(face, to), right); (e == api.OK) != (from <= to) {
				t.Fatalf("W3: from %d to %d: %d", from, to, e)
			}
		}
	}
}

// proofsAround are some that do not lead from a size to another one.
func proofsAround(from, to int) [][]string {
	h := bytesOf(7, 32)
	l := [][]string{{h}, {""}, {h[:31]}, slices.Repeat([]string{h}, 41), slices.Repeat([]string{h}, 42)}
	if from == 0 || from >= to {
		return append(l, proofOf(face, 3, 7), proofOf(face, max(1, to), max(1, to)+1), proofOf(face, 1, from+2))
	}
	right := proofOf(face, from, to)
	l = append(l, nil, append(slices.Clone(right), h), append([]string{h}, right...), right[1:], right[:len(right)-1], proofOf(other, from, to))
	for i := range right {
		spoilt, short := slices.Clone(right), slices.Clone(right)
		spoilt[i], short[i] = right[i][:31]+"x", right[i][:31]
		l = append(l, spoilt, short)
	}
	return l
}

// The greatest sizes, at a witness that stands there.
func TestGreatSizes(t *testing.T) {
	a := logOf(t, "a", 1, 4)
	p := made(t, "w", handOf(t, 2, 3))
	p.watch(a.known())
	const half = 1 << 39
	root, beside := bytesOf(1, 32), bytesOf(2, 32)
	whole := hashOf("\x01" + root + beside)
	great := api.Head{Size: 1 << 40, Root: whole}
	for i, c := range []struct {
		h     api.Head
		proof []string
		e     api.Errno
	}{
		{api.Head{Size: half, Root: root}, nil, api.OK}, {great, nil, api.ErrWitnessProof}, {great, []string{beside}, api.OK}, {great, nil, api.OK}, {great, []string{beside}, api.ErrWitnessProof},
		{api.Head{Size: 1 << 40, Root: root}, nil, api.ErrWitnessFork}, {api.Head{Size: half, Root: root}, nil, api.ErrWitnessOld}, {api.Head{Size: 1<<40 - 1, Root: root}, nil, api.ErrWitnessOld},
	} {
		if _, e := p.see(printed(t, a.of(c.h)), c.proof); e != c.e {
			t.Errorf("W3: line %d: %d, want %d", i, e, c.e)
		}
	}
	p.load()
	if h, _ := p.w.Head("a"); h != great {
		t.Errorf("W1: Load: %d", h.Size)
	}
}

// Of no leaves there is one root, and nothing leads from there but what is signed.
func TestEmptyLogs(t *testing.T) {
	a := logOf(t, "a", 1, 3)
	p := made(t, "w", handOf(t, 2, 3))
	p.watch(a.known())
	empty := headOf(face, 0)
	if h, _ := p.w.Head("a"); h != empty {
		t.Errorf("W2: the last head of a log of which none was signed: %v", h)
	}
	for i, c := range []struct {
		h     api.Head
		proof []string
		e     api.Errno
	}{
		{api.Head{Size: 0, Root: bytesOf(1, 32)}, nil, api.ErrWitnessFork}, {empty, []string{""}, api.ErrWitnessProof}, {empty, nil, api.OK}, {empty, []string{}, api.OK},
		{headOf(face, 3), proofOf(face, 1, 3), api.ErrWitnessProof}, {headOf(face, 3), nil, api.OK}, {empty, nil, api.ErrWitnessOld},
	} {
		if _, e := p.see(printed(t, a.of(c.h)), c.proof); e != c.e {
			t.Errorf("W3: line %d: %d, want %d", i, e, c.e)
		}
	}
}

// A signature by the witness's name is replaced, whoever gave it, also among sixteen; all others stay as they are.
func TestOwnNameInTheNote(t *testing.T) {
	a := logOf(t, "n-08.", 1, 3)
	p := made(t, "n-08", handOf(t, 2, 5))
	p.watch(a.known())
	names := numbered(16)
	for _, of := range [][]string{nil, {"n-08"}, {"a", "n-08", "z"}, names[:9], names[8:], names[:15], names[1:], slices.Concat(names[:8], names[9:15])} {
		n := with(a.of(headOf(face, 3)), others(of...)...)
		text, e := p.see(printed(t, n), nil)
		x, _, _ := note.Parse(text)
		fresh := !slices.Contains(of, "n-08")
		if e != api.OK || note.Check(x, p.known("n-08")) != api.OK || note.Check(x, a.known()) != api.OK || (len(x.Signatures) == len(n.Signatures)+1) != fresh {
			t.Fatalf("W3: signed by %q: %d, %d signatures", of, e, len(x.Signatures))
		}
		for _, s := range n.Signatures {
			if s.Name != "n-08" && !slices.Contains(x.Signatures, s) {
				t.Errorf("W3: signed by %q: the signature of %q is gone", of, s.Name)
			}
		}
		// What came out is a note that goes on, too.
		if again, e := p.see(text, nil); e != api.OK || again == text {
			t.Errorf("W3: signed by %q, again: %d", of, e)
		}
	}
	left := p.s.Left()
	for _, of := range [][]string{slices.Concat(names[:8], names[9:]), append(names[9:], "a", "b", "c", "d", "e", "f", "g", "h")} {
		if _, e := p.see(printed(t, with(a.of(headOf(face, 3)), others(of...)...)), nil); e != api.ErrNoteMany {
			t.Errorf("W3: a seventeenth: %d", e)
		}
	}
	if p.s.Left() != left {
		t.Error("W3: a key was spent on what was refused")
	}
}

// A witness that has the log's name takes the log's signature out, too.
func TestLogsName(t *testing.T) {
	a := logOf(t, "log", 1, 3)
	p := made(t, "log", handOf(t, 2, 3))
	p.watch(a.known())
	n := with(a.of(headOf(face, 3)), others(numbered(15)...)...)
	for _, c := range []api.Note{n, a.of(headOf(face, 3))} {
		text, e := p.see(printed(t, c), nil)
		x, _, _ := note.Parse(text)
		if e != api.OK || len(x.Signatures) != len(c.Signatures) || note.Check(x, a.known()) != api.ErrNoteBad || note.Check(x, p.known("log")) != api.OK {
			t.Errorf("W3: of the log's name: %d, %d signatures", e, len(x.Signatures))
		}
		// The log has not signed that.
		if _, e := p.see(text, nil); e != api.ErrWitnessNote {
			t.Errorf("W3: of the log's name, again: %d", e)
		}
	}
	// One that watches its own key takes its own signature for the log's.
	q := made(t, "log", p.hand)
	q.watch(p.known("log"))
	signed, _ := note.Sign(api.Note{Origin: "log", Head: headOf(face, 2)}, "log", handOf(t, 2, 3).s)
	if text, e := q.see(printed(t, signed), nil); e != api.OK || strings.Count(text, "\n") != 5 {
		t.Errorf("W3: of its own key: %d", e)
	}
}

// Where the signer refuses, the head stays, whatever was spent.
func TestSignersErrors(t *testing.T) {
	a := logOf(t, "a", 1, 3)
	p := made(t, "w", handOf(t, 2, 2))
	p.watch(a.known())
	see := func(size int, want api.Errno) {
		t.Helper()
		was, _ := p.w.Head("a")
		proof := proofOf(face, was.Size, size)
		if was.Size == 0 {
			proof = nil
		}
		_, e := p.see(a.says(face, size), proof)
		h, _ := p.w.Head("a")
		if e != want || e != api.OK && h != was || e == api.OK && h != headOf(face, size) {
			t.Errorf("W3: the size %d: %d, want %d; Head: %d", size, e, want, h.Size)
		}
	}
	p.arm(1)
	see(2, api.ErrDead)
	see(2, api.ErrDead)
	p.revive(t, 0)
	p.load()
	see(2, api.OK)
	p.arm(2)
	see(3, api.ErrDead)
	p.revive(t, 256) // a key is spent
	see(3, api.ErrSignerBack)
	p.load()
	if p.s.Left() != 2 {
		t.Fatalf("%d keys are left", p.s.Left())
	}
	see(4, api.OK)
	// Another signer of the device.
	own := p.hand
	own.open(t)
	own.s.Sign("x")
	own.twin.Sign("x")
	see(5, api.ErrSignerBack)
	see(5, api.ErrSignerBack)
	p.hand = own
	p.load()
	see(5, api.ErrSignerUsed)
	see(4, api.ErrSignerUsed)
	p.hand = handOf(t, 3, 0)
	p.load()
	see(6, api.OK)
	see(7, api.ErrSignerUsed)
}

// Of no signer, nothing is signed; all else is as it is.
func TestNoSigner(t *testing.T) {
	a := logOf(t, "a", 1, 2)
	for _, s := range []*signer.Signer{nil, {}} {
		p := made(t, "w", hand{s: s, twin: s})
		p.s = nil // nothing to hold it to
		p.watch(a.known())
		if _, e := p.see(a.says(face, 5), nil); e != api.ErrDead {
			t.Errorf("W3: no signer: %d", e)
		}
		if _, e := p.see(a.says(face, 5), proofOf(face, 2, 5)); e != api.ErrWitnessProof {
			t.Errorf("W3: no signer, a wrong proof: %d", e)
		}
		if h, _ := p.w.Head("a"); h.Size != 0 {
			t.Errorf("W3: no signer: Head: %d", h.Size)
		}
	}
}

// What New and Load give beside an error is no witness: it knows no log, and no call on it panics.
func TestNoWitness(t *testing.T) {
	a := logOf(t, "a", 1, 2)
	none, _ := witness.New("", nil)
	unread, _ := witness.Load("w", nil, "")
	for i, w := range []*witness.Witness{none, unread, {}} {
		if e := w.Watch(a.known()); (e == api.ErrArg) != (w == nil) {
			t.Errorf("R1: %d: Watch: %d", i, e)
		}
		if _, e := w.Head("x"); e != api.ErrWitnessLog {
			t.Errorf("R1: %d: Head: %d", i, e)
		}
		if text, e := w.See("", nil); text != "" || e != api.ErrNoteForm {
			t.Errorf("R1: %d: See: %d", i, e)
		}
		if text, e := w.See(a.says(face, 5), nil); text != "" || e == api.OK {
			t.Errorf("R1: %d: See: %d", i, e)
		}
		if isLoad(t, w.Saved()) != api.OK || w == nil && len(w.Logs()) != 0 {
			t.Errorf("R1: %d: Logs: %q", i, w.Logs())
		}
	}
}

func TestHeads(t *testing.T) {
	r := rand.New(rand.NewSource(1))
	p := made(t, "w", handOf(t, 2, 5))
	names := numbered(16)
	var all []*log
	for i, name := range names {
		all = append(all, logOf(t, name, 10+i, 0))
	}
	r.Shuffle(16, func(i, j int) { all[i], all[j] = all[j], all[i] })
	for i, l := range all {
		p.watch(l.known())
		if _, e := p.see(l.says(strconv.Itoa(i), i), nil); e != api.OK {
			t.Errorf("W3: the log %d: %d", i, e)
		}
	}
	for i, l := range all {
		if h, e := p.w.Head(l.origin); h != headOf(strconv.Itoa(i), i) || e != api.OK {
			t.Errorf("W4: Head(%q): %d, %d", l.origin, h.Size, e)
		}
	}
	if l := p.w.Logs(); !slices.Equal(l, names) {
		t.Errorf("W4: Logs: %q", l)
	}
	for _, origin := range append(oddNames(), "n-0", "n-000", "n-16", "n", "z") {
		if h, e := p.w.Head(origin); h != (api.Head{}) || e != api.ErrWitnessLog {
			t.Errorf("W4: Head(%q): %v, %d", origin, h, e)
		}
	}
	p.load()
}
