package witness_test

import (
	"crypto/sha256"
	"encoding/binary"
	"fmt"
	"maps"
	"regexp"
	"slices"
	"strings"
	"testing"

	"scrivener/api"
	"scrivener/device"
	"scrivener/note"
	"scrivener/recursion"
	"scrivener/signer"
	"scrivener/verify"
	"scrivener/witness"
)

// The model takes the words as they stand: the logs are a map, what is saved is laid down and read by hand, and a twin of the signer, on a twin of its device, signs for it.

var namePattern = regexp.MustCompile(`\A[a-z0-9./-]{1,32}\z`)

func slowName(s string) bool { return namePattern.MatchString(s) }

func hashOf(s string) string {
	sum := sha256.Sum256([]byte(s))
	return string(sum[:])
}

// watched is what is known of a log.
type watched struct {
	key  string
	last api.Head
}

type model struct {
	name string
	s    *signer.Signer
	logs map[string]watched
}

func modelNew(name string, s *signer.Signer) (*model, api.Errno) {
	if !slowName(name) {
		return nil, api.ErrArg
	}
	return &model{name, s, map[string]watched{}}, api.OK
}

func modelLoad(name string, s *signer.Signer, saved string) (*model, api.Errno) {
	m, e := modelNew(name, s)
	if e != api.OK {
		return nil, e
	}
	logs, ok := slowRead(saved)
	if !ok {
		return nil, api.ErrCodecForm
	}
	m.logs = logs
	return m, api.OK
}

// slowNum is a number by its digits of base 128.
func slowNum(n int) string { return string(binary.AppendUvarint(nil, uint64(n))) }

// slowSaved lays down what the words say, sum and all.
func slowSaved(logs map[string]watched) string {
	s := "SW" + slowNum(len(logs))
	for _, origin := range slices.Sorted(maps.Keys(logs)) {
		s += savedLog(origin, logs[origin])
	}
	return s + hashOf(s)
}

func savedLog(origin string, x watched) string {
	return slowNum(len(origin)) + origin + x.key + slowNum(x.last.Size) + x.last.Root
}

// slowRead reads it, byte by byte.
func slowRead(s string) (map[string]watched, bool) {
	whole, bad := s, false
	take := func(n int) string {
		if n > len(s) {
			bad = true
			return ""
		}
		head := s[:n]
		s = s[n:]
		return head
	}
	num := func(most int) int {
		n, size := binary.Uvarint([]byte(s))
		if size <= 0 || n > uint64(most) || slowNum(int(n)) != s[:size] {
			bad = true
			return 0
		}
		take(size)
		return int(n)
	}
	logs, last := map[string]watched{}, ""
	bad = take(2) != "SW"
	for i, many := 0, num(16); i < many && !bad; i++ {
		origin := take(num(32))
		x := watched{key: take(32)}
		x.last.Size = num(1 << 40)
		x.last.Root = take(32)
		bad = bad || !slowName(origin) || origin <= last || x.last.Size == 0 && x.last.Root != hashOf("")
		logs[origin], last = x, origin
	}
	summed := whole[:len(whole)-len(s)]
	return logs, take(32) == hashOf(summed) && s == "" && !bad
}

func (m *model) watch(log api.Known) api.Errno {
	x, ok := m.logs[log.Name]
	switch {
	case !slowName(log.Name), len(log.Key) != 32:
		return api.ErrArg
	case ok && x.key != log.Key:
		return api.ErrWitnessLog
	case !ok && len(m.logs) == 16:
		return api.ErrWitnessMany
	case !ok:
		m.logs[log.Name] = watched{log.Key, api.Head{Root: hashOf("")}}
	}
	return api.OK
}

func (m *model) see(text string, proof []string) (string, api.Errno) {
	n, e, _ := note.Parse(text)
	if e != api.OK {
		return "", e
	}
	x, ok := m.logs[n.Origin]
	if !ok {
		return "", api.ErrWitnessLog
	}
	if note.Check(n, api.Known{Name: n.Origin, Key: x.key}) != api.OK {
		return "", api.ErrWitnessNote
	}
	if n.Head.Size < x.last.Size {
		return "", api.ErrWitnessOld
	}
	if n.Head.Size == x.last.Size && n.Head.Root != x.last.Root {
		return "", api.ErrWitnessFork
	}
	if n.Head.Size == x.last.Size || x.last.Size == 0 {
		if len(proof) > 0 {
			return "", api.ErrWitnessProof
		}
	} else if verify.Consistency(x.last.Size, n.Head.Size, x.last.Root, n.Head.Root, proof) != api.OK {
		return "", api.ErrWitnessProof
	}
	others := api.Note{Origin: n.Origin, Head: n.Head}
	for _, s := range n.Signatures {
		if s.Name != m.name {
			others.Signatures = append(others.Signatures, s)
		}
	}
	signed, e := note.Sign(others, m.name, m.s)
	if e != api.OK {
		return "", e
	}
	m.logs[n.Origin] = watched{x.key, n.Head}
	return note.Print(signed)
}

func (m *model) head(origin string) (api.Head, api.Errno) {
	x, ok := m.logs[origin]
	if !ok {
		return api.Head{}, api.ErrWitnessLog
	}
	return x.last, api.OK
}

// hand is a signer, and one that stands on a twin of its device.
type hand struct {
	s, twin   *signer.Signer
	d, twinOf *device.Device
}

// handOf makes one of a seed by a number, which can sign 2^height times.
func handOf(t *testing.T, seed, height int) hand {
	t.Helper()
	var h hand
	h.d, _ = device.New(4)
	h.twinOf, _ = device.New(4)
	if e, f := signer.Create(h.d, bytesOf(seed, 32), height), signer.Create(h.twinOf, bytesOf(seed, 32), height); e != api.OK || f != api.OK {
		t.Fatalf("no signer: %d, %d", e, f)
	}
	h.open(t)
	return h
}

// open opens both anew.
func (h *hand) open(t *testing.T) {
	t.Helper()
	s, e := signer.Open(h.d)
	twin, f := signer.Open(h.twinOf)
	if e != api.OK || f != api.OK {
		t.Fatalf("no signer: %d, %d", e, f)
	}
	h.s, h.twin = s, twin
}

// arm lets both devices die in an act.
func (h *hand) arm(n int) {
	h.d.Arm(n)
	h.twinOf.Arm(n)
}

// revive lets both live again, with a beginning of what was pending.
func (h *hand) revive(t *testing.T, bytes int) {
	t.Helper()
	var keeps []api.Keep
	if len(h.d.Pending()) > 0 {
		keeps = []api.Keep{{Bytes: bytes}}
	}
	if e, f := h.d.Crash(keeps), h.twinOf.Crash(keeps); e != api.OK || f != api.OK {
		t.Fatalf("Crash: %d, %d", e, f)
	}
	h.open(t)
}

func (h *hand) known(name string) api.Known { return api.Known{Name: name, Key: h.s.Key()} }

// played is a witness, and what it should be.
type played struct {
	*testing.T
	hand
	w *witness.Witness
	m *model
}

// made is one that knows no log.
func made(t *testing.T, name string, h hand) *played {
	t.Helper()
	p := &played{T: t, hand: h}
	w, e := witness.New(name, h.s)
	m, want := modelNew(name, h.twin)
	if e != want || (w != nil) != (m != nil) {
		t.Fatalf("W1: New(%.40q): a witness: %t, %d, want %d", name, w != nil, e, want)
	}
	p.w, p.m = w, m
	p.is("W1")
	return p
}

// load goes on with what was saved, as a new witness, by the signers that stand now.
func (p *played) load() {
	p.Helper()
	saved := p.w.Saved()
	w, e := witness.Load(p.m.name, p.s, saved)
	m, f := modelLoad(p.m.name, p.twin, saved)
	if e != api.OK || f != api.OK {
		p.Fatalf("W1: Load of Saved: %d, %d", e, f)
	}
	p.w, p.m = w, m
	p.is("W1")
}

// is holds what can be asked to the model, and the signer to its twin.
func (p *played) is(promise string) {
	p.Helper()
	origins := slices.Sorted(maps.Keys(p.m.logs))
	if l := p.w.Logs(); !slices.Equal(l, origins) {
		p.Fatalf("%s: Logs: %q, want %q", promise, l, origins)
	}
	for _, origin := range append(origins, "", "none", "A") {
		want, wantE := p.m.head(origin)
		if h, e := p.w.Head(origin); h != want || e != wantE {
			p.Fatalf("%s: Head(%q): %v, %d, want %v, %d", promise, origin, h, e, want, wantE)
		}
	}
	if s, want := p.w.Saved(), slowSaved(p.m.logs); s != want {
		p.Fatalf("%s: Saved: %q, want %q", promise, s, want)
	}
	if p.s == nil {
		return
	}
	if p.s.Left() != p.twin.Left() || p.s.Doubt() != p.twin.Doubt() || p.d.Dead() != p.twinOf.Dead() || !slices.Equal(p.d.Pages(), p.twinOf.Pages()) || !slices.Equal(p.d.Pending(), p.twinOf.Pending()) {
		p.Fatalf("%s: the signer: %d keys are left, want %d, in doubt: %t", promise, p.s.Left(), p.twin.Left(), p.s.Doubt())
	}
}

func (p *played) watch(log api.Known) api.Errno {
	p.Helper()
	want := p.m.watch(log)
	if e := p.w.Watch(log); e != want {
		p.Fatalf("W2: Watch(%.40q, a key of %d bytes): %d, want %d", log.Name, len(log.Key), e, want)
	}
	p.is("W2")
	return want
}

func (p *played) see(text string, proof []string) (string, api.Errno) {
	p.Helper()
	want, wantE := p.m.see(text, proof)
	s, e := p.w.See(text, proof)
	if s != want || e != wantE {
		p.Fatalf("W3: See(%.60q, %d hashes): %.300q, %d, want %.300q, %d", text, len(proof), s, e, want, wantE)
	}
	p.is("W3")
	return want, wantE
}

// isLoad holds Load of any text to the model.
func isLoad(t *testing.T, saved string) api.Errno {
	t.Helper()
	_, want := modelLoad("w", nil, saved)
	w, e := witness.Load("w", nil, saved)
	if e != want || (w != nil) != (e == api.OK) {
		t.Errorf("W1: Load(%q): a witness: %t, %d, want %d", saved, w != nil, e, want)
		return want
	}
	if e == api.OK && w.Saved() != saved {
		t.Errorf("W1: Load(%q): it saves %q", saved, w.Saved())
	}
	return want
}

// bytesOf is so many bytes, unlike one another, by a number.
func bytesOf(n, bytes int) string {
	b := make([]byte, bytes)
	for i := range b {
		b[i] = byte(n*31 + i)
	}
	return string(b)
}

// log is one with faces, whose notes are signed once each: it has but so many keys.
type log struct {
	*testing.T
	origin string
	s      *signer.Signer
	notes  map[api.Head]api.Note
}

func logOf(t *testing.T, origin string, seed, height int) *log {
	t.Helper()
	return &log{t, origin, handOf(t, seed, height).s, map[api.Head]api.Note{}}
}

func (l *log) known() api.Known { return api.Known{Name: l.origin, Key: l.s.Key()} }

// of is the note of a head, signed by the log.
func (l *log) of(h api.Head) api.Note {
	l.Helper()
	n, ok := l.notes[h]
	if !ok {
		signed, e := note.Sign(api.Note{Origin: l.origin, Head: h}, l.origin, l.s)
		if e != api.OK {
			l.Fatalf("no note: %d", e)
		}
		n = signed
		l.notes[h] = n
	}
	n.Signatures = slices.Clone(n.Signatures)
	return n
}

// says is the text of the note of a face's head.
func (l *log) says(face string, size int) string {
	l.Helper()
	return printed(l.T, l.of(headOf(face, size)))
}

func printed(t *testing.T, n api.Note) string {
	t.Helper()
	s, e := note.Print(n)
	if e != api.OK {
		t.Fatalf("no text: %d", e)
	}
	return s
}

// leavesOf are a face's: its letters, one an entry, and then the last one again and again.
func leavesOf(face string, size int) []string {
	var l []string
	for i := range size {
		l = append(l, hashOf("\x00"+fmt.Sprint(i)+face[min(i, len(face)-1):][:1]))
	}
	return l
}

func headOf(face string, size int) api.Head {
	root, _ := recursion.Root(leavesOf(face, size))
	return api.Head{Size: size, Root: root}
}

func proofOf(face string, from, to int) []string {
	p, _ := recursion.Proof(leavesOf(face, to), from)
	return p
}

// others are signatures of so many names, which nobody gave.
func others(names ...string) []api.Signature {
	var l []api.Signature
	for _, name := range names {
		l = append(l, api.Signature{Name: name, Data: "data of " + name})
	}
	return l
}

// with is a note with further signatures.
func with(n api.Note, l ...api.Signature) api.Note {
	n.Signatures = append(slices.Clone(n.Signatures), l...)
	slices.SortFunc(n.Signatures, func(a, b api.Signature) int { return strings.Compare(a.Name, b.Name) })
	return n
}

// numbered are so many names that rise.
func numbered(n int) []string {
	var l []string
	for i := range n {
		l = append(l, fmt.Sprintf("n-%02d", i))
	}
	return l
}

// oddNames are none, but for their likeness to names.
func oddNames() []string {
	l := []string{"", strings.Repeat("a", 33), strings.Repeat("a", 100), "a b", " a", "a ", "a\n", "\na", "A", "aB", "a_b", "a+b", "a:1", "é", "aé", "ａ", "\u2028", "a\u0085", "\xff", "a\xff", "\xffa", "a\xc3", "a\x00", "\x00", "\r", "a\xffa", "aAa", "٣", "\ufffd"}
	for b := range 256 {
		if s := string([]byte{byte(b)}); !slowName(s) {
			l = append(l, s, "a"+s, s+"a", "a"+s+"a", strings.Repeat("a", 31)+s)
		}
	}
	return l
}

// rightNames are some at their edges.
func rightNames() []string {
	l := []string{"witness/w", strings.Repeat("a", 31), strings.Repeat("z", 32), strings.Repeat("/", 32), "..", "log.example/1"}
	for b := range 256 {
		if s := string([]byte{byte(b)}); slowName(s) {
			l = append(l, s, "x"+s)
		}
	}
	return l
}
