package witness_test

import (
	"math/rand"
	"slices"
	"testing"

	"scrivener/api"
	"scrivener/digest"
	"scrivener/extract"
	"scrivener/note"
	"scrivener/recursion"
	"scrivener/verify"
)

// What follows: W5.

// step is a head that was signed, and the proof with which it came.
type step struct {
	head  api.Head
	proof []string
}

// row is what was signed of one log, from the first head on.
type row struct {
	*testing.T
	log   *log
	steps []step
}

// take holds an answer to what W5 says of it, and to what was signed ahead of it.
func (x *row) take(own api.Known, text string, h api.Head, proof []string) {
	x.Helper()
	n, e, _ := note.Parse(text)
	// Of a log that has the witness's name the log's own signature is taken out.
	stays := own.Name == x.log.origin || note.Check(n, x.log.known()) == api.OK
	if e != api.OK || n.Head != h || note.Check(n, own) != api.OK || !stays {
		x.Fatalf("W5: signed: %d, the size %d", e, n.Head.Size)
	}
	if len(x.steps) > 0 {
		last := x.steps[len(x.steps)-1].head
		if h.Size < last.Size || h.Size == last.Size && h != last {
			x.Fatalf("W5: of %s the size %d was signed, then %d", x.log.origin, last.Size, h.Size)
		}
		if last.Size > 0 && last.Size < h.Size && verify.Consistency(last.Size, h.Size, last.Root, h.Root, proof) != api.OK {
			x.Fatalf("W5: of %s the sizes %d and %d were signed, without a proof", x.log.origin, last.Size, h.Size)
		}
	}
	x.steps = append(x.steps, step{h, slices.Clone(proof)})
}

// holds tells whether all that was signed is one log's, or two unlike texts with one digest are worked out; and how many of these there were, step by step below the greater head.
func (x *row) holds(leaves []string) (found [8]int) {
	x.Helper()
	leads := func(s step) bool {
		root, e := recursion.Root(leaves[:s.head.Size])
		return e == api.OK && root == s.head.Root
	}
	for j, greater := range x.steps {
		for i := range j {
			if !leads(greater) || leads(x.steps[i]) {
				continue
			}
			k := j
			for leads(x.steps[k-1]) {
				k--
			}
			old, now := x.steps[k-1].head, x.steps[k]
			pair, e := extract.Consistency(leaves[:now.head.Size], old.Size, old.Root, now.proof)
			if e != api.OK || pair.A == pair.B || digest.Sum(pair.A) != digest.Sum(pair.B) {
				x.Fatalf("W5: of %s the sizes %d and %d were signed, which are not of one log; a pair: %d", x.log.origin, old.Size, greater.head.Size, e)
			}
			found[j-k]++
		}
	}
	return found
}

// facesOf are those that the logs show; the second one goes on from the first five entries of the first one.
func facesOf() []string { return []string{"a", "aaaaab", "b"} }

const longest = 12 // face

// game is a witness, asked at random.
type game struct {
	*played
	*rand.Rand
	logs     []*log
	stranger *log // has the origin of the first one, and another key
	rows     map[string]*row
	done     map[api.Errno]int
}

// any is a head that a log may show, and a proof of it: often those that go on.
func (g game) any(l *log) (api.Head, []string) {
	last := g.m.logs[l.origin].last
	face, size := facesOf()[g.Intn(3)], g.Intn(longest)
	if g.Intn(3) > 0 {
		size = min(last.Size+g.Intn(4), longest-1)
	}
	from := last.Size
	if g.Intn(6) == 0 {
		from = g.Intn(longest)
	}
	proof := proofOf(face, from, size)
	if len(proof) > 0 && g.Intn(8) == 0 {
		proof[g.Intn(len(proof))] = bytesOf(g.Intn(3), 31+g.Intn(2))
	}
	if g.Intn(12) == 0 {
		proof = append(proof, bytesOf(1, 32))
	}
	return headOf(face, size), proof
}

// see shows any note of any log.
func (g game) see() {
	g.Helper()
	l := g.logs[g.Intn(len(g.logs))]
	h, proof := g.any(l)
	if g.Intn(10) == 0 {
		l = g.stranger
	}
	text, e := g.played.see(printed(g.T, l.of(h)), proof)
	g.done[e]++
	if e == api.OK {
		g.rows[l.origin].take(g.known("w"), text, h, proof)
	}
}

// turn is any call.
func (g game) turn() {
	g.Helper()
	l := g.logs[g.Intn(len(g.logs))]
	switch g.Intn(12) {
	case 0:
		g.done[g.watch(l.known())]++
	case 1:
		if _, e := g.m.head(l.origin); e == api.OK {
			g.watch(api.Known{Name: l.origin, Key: g.stranger.s.Key()})
		}
	case 2:
		g.load()
	case 3:
		g.arm(1 + g.Intn(2))
	}
	g.see()
	g.arm(0)
	if g.d.Dead() {
		g.revive(g.T, []int{0, 100, 256}[g.Intn(3)])
	}
	if g.s.Left() == 0 && g.Intn(5) == 0 {
		g.hand = handOf(g.T, g.Intn(200), 3)
		g.load()
	}
}

// Logs with faces, whose notes come in any order, with any proofs, to a witness whose signer dies, and which is loaded again and again.
func TestAnyCalls(t *testing.T) {
	r := rand.New(rand.NewSource(4))
	var logs []*log
	for i, origin := range []string{"log", "log/1", "w"} {
		logs = append(logs, logOf(t, origin, 10+i, 6))
	}
	stranger := logOf(t, "log", 20, 6)
	done, signed := map[api.Errno]int{}, 0
	for range 80 {
		g := game{made(t, "w", handOf(t, r.Intn(200), 3)), r, logs, stranger, map[string]*row{}, done}
		for _, l := range logs {
			g.rows[l.origin] = &row{T: t, log: l}
		}
		for range 60 {
			g.turn()
		}
		for _, x := range g.rows {
			signed += len(x.steps)
			for _, face := range facesOf() {
				x.holds(leavesOf(face, longest))
			}
		}
	}
	for _, e := range []api.Errno{api.OK, api.ErrWitnessLog, api.ErrWitnessNote, api.ErrWitnessOld, api.ErrWitnessFork, api.ErrWitnessProof, api.ErrDead, api.ErrSignerUsed, api.ErrSignerBack} {
		if done[e] < 20 {
			t.Errorf("W5: the error %d came only %d times: %v", e, done[e], done)
		}
	}
	if signed < 500 {
		t.Errorf("W5: only %d were signed", signed)
	}
}

// Of two faces a witness stands for the one that it has signed first, whatever it is shown.
func TestOneFace(t *testing.T) {
	l := logOf(t, "log", 1, 7)
	p := made(t, "w", handOf(t, 2, 5))
	p.watch(l.known())
	p.see(l.says("aaaaab", 7), nil)
	for size := 1; size <= longest; size++ {
		for from := 1; from <= size; from++ {
			for _, face := range []string{"a", "b"} {
				if _, e := p.see(l.says(face, size), proofOf(face, from, size)); e == api.OK {
					t.Fatalf("W5: of %q the size %d is signed, too", face, size)
				}
			}
		}
	}
	if _, e := p.see(l.says("aaaaab", 9), proofOf("aaaaab", 7, 9)); e != api.OK {
		t.Errorf("W5: the face that was signed: %d", e)
	}
}
