package note_test

import (
	"encoding/base64"
	"fmt"
	"maps"
	"math"
	"math/rand"
	"regexp"
	"slices"
	"strings"
	"testing"

	"scrivener/api"
	"scrivener/device"
	"scrivener/note"
	"scrivener/signer"
)

// The model takes the words as they stand: names and sizes by patterns, lines by the library's Split, Base64 by the library's; signers on twin devices sign for it.

var (
	namePattern = regexp.MustCompile(`\A[a-z0-9./-]{1,32}\z`)
	sizePattern = regexp.MustCompile(`\A(0|[1-9][0-9]{0,12})\z`)
	linePattern = regexp.MustCompile(`\A- ([^ ]*) (.*)\z`)
)

func slowName(s string) bool { return namePattern.MatchString(s) }

func slowBase(s string) string { return base64.StdEncoding.EncodeToString([]byte(s)) }

// slowFrom reads Base64 that has but one text.
func slowFrom(s string) (string, bool) {
	b, err := base64.StdEncoding.Strict().DecodeString(s)
	return string(b), err == nil && slowBase(string(b)) == s
}

func slowSize(s string) (int, bool) {
	n := 0
	if !sizePattern.MatchString(s) {
		return 0, false
	}
	fmt.Sscan(s, &n)
	return n, n <= 1<<40
}

func slowMayBody(n api.Note) bool {
	return slowName(n.Origin) && 0 <= n.Head.Size && n.Head.Size <= 1<<40 && len(n.Head.Root) == 32
}

func slowMaySignatures(l []api.Signature) bool {
	for i, s := range l {
		for _, ahead := range l[:i] {
			if ahead.Name >= s.Name {
				return false
			}
		}
		if !slowName(s.Name) || len(s.Data) < 1 || len(s.Data) > 6000 {
			return false
		}
	}
	return true
}

// slowRefusal is the error with which Print refuses a note.
func slowRefusal(n api.Note) api.Errno {
	switch {
	case !slowMayBody(n):
		return api.ErrNoteField
	case len(n.Signatures) > 16:
		return api.ErrNoteMany
	case !slowMaySignatures(n.Signatures):
		return api.ErrNoteField
	}
	return api.OK
}

func slowBody(n api.Note) (string, api.Errno) {
	if !slowMayBody(n) {
		return "", api.ErrNoteField
	}
	return fmt.Sprintf("%s\n%d\n%s\n", n.Origin, n.Head.Size, slowBase(n.Head.Root)), api.OK
}

func slowPrint(n api.Note) (string, api.Errno) {
	if e := slowRefusal(n); e != api.OK {
		return "", e
	}
	s, _ := slowBody(n)
	s += "\n"
	for _, x := range n.Signatures {
		s += fmt.Sprintf("- %s %s\n", x.Name, slowBase(x.Data))
	}
	return s, api.OK
}

// slowParse goes over all lines and tells the first one that may not be.
func slowParse(s string) (api.Note, api.Errno, int) {
	l := strings.Split(s, "\n")
	last := l[len(l)-1]
	l = l[:len(l)-1]
	var n api.Note
	ok := true
	for i, line := range l {
		switch i {
		case 0:
			n.Origin, ok = line, slowName(line)
		case 1:
			n.Head.Size, ok = slowSize(line)
		case 2:
			n.Head.Root, ok = slowFrom(line)
			ok = ok && len(n.Head.Root) == 32
		case 3:
			ok = line == ""
		default:
			m := linePattern.FindStringSubmatch(line)
			if m == nil || i > 19 {
				return api.Note{}, api.ErrNoteForm, i + 1
			}
			var data string
			data, ok = slowFrom(m[2])
			n.Signatures = append(n.Signatures, api.Signature{Name: m[1], Data: data})
			ok = ok && slowMaySignatures(n.Signatures)
		}
		if !ok {
			return api.Note{}, api.ErrNoteForm, i + 1
		}
	}
	if last != "" || len(l) < 4 {
		return api.Note{}, api.ErrNoteForm, len(l) + 1
	}
	return n, api.OK, 0
}

// namesOf are the names of signatures.
func namesOf(l []api.Signature) []string {
	var names []string
	for _, s := range l {
		names = append(names, s.Name)
	}
	return names
}

// listOf are signatures by their names, in their order.
func listOf(m map[string]string) []api.Signature {
	var l []api.Signature
	for _, name := range slices.Sorted(maps.Keys(m)) {
		l = append(l, api.Signature{Name: name, Data: m[name]})
	}
	return l
}

// mapOf is what listOf makes a list of.
func mapOf(l []api.Signature) map[string]string {
	m := map[string]string{}
	for _, s := range l {
		m[s.Name] = s.Data
	}
	return m
}

func slowSign(n api.Note, name string, s *signer.Signer) (api.Note, api.Errno) {
	if e := slowRefusal(n); e != api.OK {
		return api.Note{}, e
	}
	if !slowName(name) {
		return api.Note{}, api.ErrNoteField
	}
	if len(n.Signatures) == 16 && !slices.Contains(namesOf(n.Signatures), name) {
		return api.Note{}, api.ErrNoteMany
	}
	body, _ := slowBody(n)
	data, e := s.Sign(body + name + "\n")
	if e != api.OK {
		return api.Note{}, e
	}
	m := mapOf(n.Signatures)
	m[name] = data
	return api.Note{Origin: n.Origin, Head: n.Head, Signatures: listOf(m)}, api.OK
}

func slowCheck(n api.Note, k api.Known) api.Errno {
	if e := slowRefusal(n); e != api.OK {
		return e
	}
	body, _ := slowBody(n)
	for _, s := range n.Signatures {
		if s.Name != k.Name {
			continue
		}
		if signer.Verify(k.Key, body+k.Name+"\n", s.Data) != api.OK {
			return api.ErrNoteBad
		}
		return api.OK
	}
	return api.ErrNoteNone
}

func slowMerge(a, b api.Note) (api.Note, api.Errno) {
	if e := slowRefusal(a); e != api.OK {
		return api.Note{}, e
	}
	if e := slowRefusal(b); e != api.OK {
		return api.Note{}, e
	}
	one, _ := slowBody(a)
	two, _ := slowBody(b)
	if one != two {
		return api.Note{}, api.ErrNoteForm
	}
	m := mapOf(b.Signatures)
	maps.Copy(m, mapOf(a.Signatures))
	if len(m) > 16 {
		return api.Note{}, api.ErrNoteMany
	}
	return api.Note{Origin: a.Origin, Head: a.Head, Signatures: listOf(m)}, api.OK
}

func sameNote(a, b api.Note) bool {
	return a.Origin == b.Origin && a.Head == b.Head && slices.Equal(a.Signatures, b.Signatures)
}

// short is a note, told in few signs.
func short(n api.Note) string {
	s := fmt.Sprintf("%.40q %d %d bytes", n.Origin, n.Head.Size, len(n.Head.Root))
	for _, x := range n.Signatures {
		s += fmt.Sprintf(" %.40q:%d", x.Name, len(x.Data))
	}
	return s
}

// isPrint holds Body and Print to the model, and tells Print's text.
func isPrint(t *testing.T, n api.Note) (string, api.Errno) {
	t.Helper()
	want, wantE := slowBody(n)
	if s, e := note.Body(n); s != want || e != wantE {
		t.Errorf("N1: Body of %s: %q, %d, want %q, %d", short(n), s, e, want, wantE)
	}
	want, wantE = slowPrint(n)
	s, e := note.Print(n)
	if s != want || e != wantE {
		t.Errorf("N1: Print of %s: %.300q, %d, want %.300q, %d", short(n), s, e, want, wantE)
	}
	return want, wantE
}

// isParse holds Parse to the model, and tells the line.
func isParse(t *testing.T, s string) int {
	t.Helper()
	want, wantE, wantAt := slowParse(s)
	n, e, at := note.Parse(s)
	if !sameNote(n, want) || e != wantE || at != wantAt {
		t.Errorf("N2: Parse(%.300q): %s, %d, line %d, want %s, %d, line %d", s, short(n), e, at, short(want), wantE, wantAt)
	}
	return wantAt
}

// isCheck holds Check to the model.
func isCheck(t *testing.T, n api.Note, k api.Known) api.Errno {
	t.Helper()
	want := slowCheck(n, k)
	if e := note.Check(n, k); e != want {
		t.Errorf("N4: Check(%s, %.40q, a key of %d bytes): %d, want %d", short(n), k.Name, len(k.Key), e, want)
	}
	return want
}

// isMerge holds Merge to the model.
func isMerge(t *testing.T, a, b api.Note) (api.Note, api.Errno) {
	t.Helper()
	want, wantE := slowMerge(a, b)
	n, e := note.Merge(a, b)
	if !sameNote(n, want) || e != wantE {
		t.Errorf("N5: Merge(%s, %s): %s, %d, want %s, %d", short(a), short(b), short(n), e, short(want), wantE)
	}
	return want, wantE
}

// hand is a signer, and one that stands on a twin of its device.
type hand struct {
	*testing.T
	s, twin   *signer.Signer
	d, twinOf *device.Device
}

// handOf makes one of a seed by a number, which can sign 2^height times.
func handOf(t *testing.T, seed, height int) hand {
	t.Helper()
	h := hand{T: t}
	for _, x := range []struct {
		s **signer.Signer
		d **device.Device
	}{{&h.s, &h.d}, {&h.twin, &h.twinOf}} {
		*x.d, _ = device.New(4)
		e := signer.Create(*x.d, text(seed, 32), height)
		s, f := signer.Open(*x.d)
		if e != api.OK || f != api.OK {
			t.Fatalf("no signer: %d, %d", e, f)
		}
		*x.s = s
	}
	return h
}

func (h hand) known(name string) api.Known { return api.Known{Name: name, Key: h.s.Key()} }

// arm lets both devices die in an act.
func (h hand) arm(n int) {
	h.d.Arm(n)
	h.twinOf.Arm(n)
}

// sign holds Sign to the model, and the signer to the one that the model signs with.
func (h hand) sign(n api.Note, name string) (api.Note, api.Errno) {
	h.Helper()
	want, wantE := slowSign(n, name, h.twin)
	x, e := note.Sign(n, name, h.s)
	if !sameNote(x, want) || e != wantE {
		h.Errorf("N3: Sign(%s, %.40q): %s, %d, want %s, %d", short(n), name, short(x), e, short(want), wantE)
	}
	if h.s.Left() != h.twin.Left() || h.s.Doubt() != h.twin.Doubt() || !slices.Equal(h.d.Pages(), h.twinOf.Pages()) || h.d.Dead() != h.twinOf.Dead() {
		h.Errorf("N3: Sign(%s, %.40q): %d keys are left, want %d, in doubt: %t", short(n), name, h.s.Left(), h.twin.Left(), h.s.Doubt())
	}
	return want, wantE
}

// text is so many bytes, unlike one another, by a number.
func text(n, bytes int) string {
	b := make([]byte, bytes)
	for i := range b {
		b[i] = byte(n*31 + i)
	}
	return string(b)
}

const nameSigns = "abcdefghijklmnopqrstuvwxyz0123456789.-/"

// someName is a name of up to so many bytes.
func someName(r *rand.Rand, most int) string {
	b := make([]byte, 1+r.Intn(most))
	for i := range b {
		b[i] = nameSigns[r.Intn(len(nameSigns))]
	}
	return string(b)
}

// someSize is a size that may be, of any length.
func someSize(r *rand.Rand) int {
	return int(min(r.Uint64()>>r.Intn(64)&(1<<41-1), 1<<40))
}

// someSignatures are up to so many, of names of up to two bytes now and then, so that two lists have some in common.
func someSignatures(r *rand.Rand, most int) []api.Signature {
	m := map[string]string{}
	for range r.Intn(most + 1) {
		m[someName(r, []int{1, 2, 32}[r.Intn(3)])] = text(r.Intn(256), 1+r.Intn([]int{3, 40, 6000}[r.Intn(3)]))
	}
	return listOf(m)
}

// someNote is one that may be.
func someNote(r *rand.Rand) api.Note {
	return api.Note{
		Origin: someName(r, 32), Head: api.Head{Size: someSize(r), Root: text(r.Intn(256), 32)},
		Signatures: someSignatures(r, r.Intn(17)),
	}
}

// plain is a note of a size that nobody has signed.
func plain(size int) api.Note {
	return api.Note{Origin: "log.example/1", Head: api.Head{Size: size, Root: text(size, 32)}}
}

// with is such a note, signed by some names.
func with(names ...string) api.Note {
	n := plain(5)
	for _, s := range names {
		n.Signatures = append(n.Signatures, api.Signature{Name: s, Data: "data of " + s})
	}
	return n
}

// numbered are so many names that rise.
func numbered(n int) []string {
	var l []string
	for i := range n {
		l = append(l, fmt.Sprintf("name-%02d", i))
	}
	return l
}

// oddNames are none, but for their likeness to names.
func oddNames() []string {
	l := []string{"", strings.Repeat("a", 33), strings.Repeat("a", 34), strings.Repeat("a", 100), "a b", " a", "a ", "a\n", "\na", "A", "aB", "a_b", "a+b", "a:1", "é", "aé", "ａ", "\u2028", "a\u0085", "\xff", "a\xc3", "a\x00", "\x00", "\r", "a\r", "-\t", "٣"}
	for b := range 256 {
		if s := string([]byte{byte(b)}); !strings.Contains(nameSigns, s) {
			l = append(l, s, "a"+s, s+"a", strings.Repeat("a", 31)+s)
		}
	}
	return l
}

// rightNames are some at their edges.
func rightNames() []string {
	l := []string{"a", "z", "0", "9", ".", "-", "/", "//", "--", "..", "log.example/1", strings.Repeat("a", 31), strings.Repeat("z", 32), strings.Repeat("/", 32)}
	for i := range len(nameSigns) {
		l = append(l, nameSigns[i:i+1], "x"+nameSigns[i:i+1])
	}
	return l
}

// oddSizes are numbers that no log has.
func oddSizes() []int {
	l := []int{-1, -2, -5, math.MinInt, math.MinInt + 1, math.MaxInt, math.MaxInt - 1, 1<<40 + 1, 1<<40 + 2, 1 << 41, -1 << 40}
	for i := 41; i < 63; i++ {
		l = append(l, 1<<i, 1<<i+5, -(1 << i))
	}
	return l
}
