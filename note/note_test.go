package note_test

import (
	"math/rand"
	"slices"
	"strconv"
	"strings"
	"testing"

	"scrivener/api"
	"scrivener/digest"
	"scrivener/note"
	"scrivener/signer"
)

const noughts = "AAAAAAAAAAAAAAAAAAAAAAAAAAAAAAAAAAAAAAAAAAA="

func TestExamples(t *testing.T) {
	n := api.Note{Origin: "log.example/1", Head: api.Head{Size: 5, Root: strings.Repeat("\x00", 32)}}
	body := "log.example/1\n5\n" + noughts + "\n"
	if s, e := note.Body(n); s != body || e != api.OK {
		t.Errorf("example 1: %q, %d", s, e)
	}
	for _, c := range []struct {
		s  string
		at int
	}{
		{"", 1}, {body, 4}, {"log.example/1\n05\n" + noughts + "\n\n", 2}, {body + "\n- a\n", 5}, {body + "\n- a ZGE=\n- b\n", 6},
		{body + "\n- b ZGI=\n- a ZGE=\n", 6},
	} {
		if x, e, at := note.Parse(c.s); !sameNote(x, api.Note{}) || e != api.ErrNoteForm || at != c.at {
			t.Errorf("example 2: Parse(%q): %s, %d, %d, want line %d", c.s, short(x), e, at, c.at)
		}
	}
	if e := note.Check(n, api.Known{Name: "a", Key: text(1, 32)}); e != api.ErrNoteNone {
		t.Errorf("example 3: %d", e)
	}
}

// The texts were worked out elsewhere.
func TestKnownTexts(t *testing.T) {
	n := api.Note{Origin: "log.example/1", Head: api.Head{Size: 1 << 40, Root: text(0, 32)}}
	signed := n
	signed.Signatures = []api.Signature{{Name: "a", Data: "\x00"}, {Name: "b/2", Data: "\xff\xfe"}, {Name: "c.d-e", Data: "abc"}}
	want := "log.example/1\n1099511627776\nAAECAwQFBgcICQoLDA0ODxAREhMUFRYXGBkaGxwdHh8=\n\n- a AA==\n- b/2 //4=\n- c.d-e YWJj\n"
	if s, e := note.Print(signed); s != want || e != api.OK {
		t.Errorf("N1: Print: %q, %d", s, e)
	}
	if x, e, at := note.Parse(want); !sameNote(x, signed) || e != api.OK || at != 0 {
		t.Errorf("N2: Parse: %s, %d, %d", short(x), e, at)
	}
	for i := range 16 {
		data := make([]byte, 6000)
		for j := range data {
			data[j] = byte(i + j)
		}
		n.Signatures = append(n.Signatures, api.Signature{Name: "n" + strconv.Itoa(i/10) + strconv.Itoa(i%10), Data: string(data)})
	}
	s, e := note.Print(n)
	if digest.Hex(digest.Sum(s)) != "14174522e9fbfa5f615e34579c2d1faae867308488a21af616b24e4fe6f21e3b" || len(s) != 128186 || e != api.OK {
		t.Errorf("N1: Print of the longest signatures: %d bytes, %d", len(s), e)
	}
}

func TestBody(t *testing.T) {
	for _, name := range rightNames() {
		n := plain(7)
		n.Origin = name
		if s, e := note.Body(n); e != api.OK || !strings.HasPrefix(s, name+"\n7\n") {
			t.Errorf("N1: the origin %q: %q, %d", name, s, e)
		}
	}
	for _, name := range oddNames() {
		n := plain(7)
		n.Origin = name
		if s, e := note.Body(n); s != "" || e != api.ErrNoteField {
			t.Errorf("N1: the origin %q: %q, %d", name, s, e)
		}
	}
	for _, size := range []int{0, 1, 9, 10, 99, 100, 1 << 20, 1<<40 - 1, 1 << 40} {
		n := plain(size)
		if s, e := note.Body(n); e != api.OK || strings.Split(s, "\n")[1] != strconv.Itoa(size) {
			t.Errorf("N1: the size %d: %q, %d", size, s, e)
		}
	}
	for _, size := range oddSizes() {
		n := plain(7)
		n.Head.Size = size
		if s, e := note.Body(n); s != "" || e != api.ErrNoteField {
			t.Errorf("N1: the size %d: %q, %d", size, s, e)
		}
	}
	for _, bytes := range []int{0, 1, 16, 31, 33, 44, 64, 1000} {
		n := plain(7)
		n.Head.Root = text(1, bytes)
		if s, e := note.Body(n); s != "" || e != api.ErrNoteField {
			t.Errorf("N1: a root of %d bytes: %q, %d", bytes, s, e)
		}
	}
	// Signatures are not looked at.
	want, _ := note.Body(with())
	for _, l := range [][]api.Signature{{{}}, {{Name: "b", Data: "x"}, {Name: "a", Data: "x"}}, make([]api.Signature, 17), make([]api.Signature, 1000)} {
		n := with()
		n.Signatures = l
		if s, e := note.Body(n); s != want || e != api.OK {
			t.Errorf("N1: Body of a note with %d wrong signatures: %q, %d", len(l), s, e)
		}
	}
}

func TestPrint(t *testing.T) {
	r := rand.New(rand.NewSource(1))
	for range 300 {
		if _, e := isPrint(t, someNote(r)); e != api.OK {
			t.Fatal("N1: the model refuses a note that may be")
		}
	}
	for _, name := range append(rightNames(), oddNames()...) {
		n := with("a", name)
		isPrint(t, n)
		n = with(name)
		if _, e := isPrint(t, n); (e == api.OK) != slices.Contains(rightNames(), name) {
			t.Errorf("N1: a signature of %q: %d", name, e)
		}
	}
	for _, bytes := range []int{0, 1, 2, 3, 4, 2146, 5999, 6000, 6001, 6002, 10000} {
		for at := range 3 {
			n := with("a", "b", "c")
			n.Signatures[at].Data = text(bytes, bytes)
			if _, e := isPrint(t, n); (e == api.OK) != (0 < bytes && bytes <= 6000) {
				t.Errorf("N1: a signature of %d bytes: %d", bytes, e)
			}
		}
	}
	for n := range 19 {
		if _, e := isPrint(t, with(numbered(n)...)); (e == api.OK) != (n <= 16) {
			t.Errorf("N1: %d signatures: %d", n, e)
		}
	}
}

// Names rise by their bytes, each above the one ahead of it.
func TestNamesRise(t *testing.T) {
	names := []string{"-", "--", "-a", ".", "/", "0", "10", "2", "9", "a", "a-", "a.", "a/", "a0", "aa", "ab", "b", "z", "zz"}
	for i, a := range names {
		for k, b := range names {
			if _, e := isPrint(t, with(a, b)); (e == api.OK) != (i < k) {
				t.Errorf("N1: %q, then %q: %d", a, b, e)
			}
			for _, c := range names {
				isPrint(t, with(a, b, c))
			}
			s := "log\n0\n" + noughts + "\n\n- " + a + " ZGE=\n- " + b + " ZGE=\n"
			if at := isParse(t, s); at != 0 && at != 6 || (at == 0) != (i < k) {
				t.Errorf("N2: %q, then %q: line %d", a, b, at)
			}
		}
	}
	all := with(names...)
	all.Signatures = all.Signatures[:16]
	if _, e := isPrint(t, all); e != api.OK {
		t.Errorf("N1: names that rise: %d", e)
	}
	for i := range 15 {
		n := all
		n.Signatures = slices.Clone(all.Signatures)
		n.Signatures[i], n.Signatures[i+1] = n.Signatures[i+1], n.Signatures[i]
		if _, e := isPrint(t, n); e != api.ErrNoteField {
			t.Errorf("N1: the names %d and %d are turned round: %d", i, i+1, e)
		}
	}
}

// spoils are ways to spoil a note's fields, with the error that each calls for, those of the same error side by side, in the order in which they are told.
func spoils() []struct {
	e     api.Errno
	spoil func(n *api.Note)
} {
	return []struct {
		e     api.Errno
		spoil func(n *api.Note)
	}{
		{api.ErrNoteField, func(n *api.Note) { n.Origin = "a b" }},
		{api.ErrNoteField, func(n *api.Note) { n.Head.Size = -1 }},
		{api.ErrNoteField, func(n *api.Note) { n.Head.Root = "x" }},
		{api.ErrNoteMany, func(n *api.Note) {
			n.Signatures = slices.Concat(n.Signatures, with(numbered(17-len(n.Signatures))...).Signatures)
		}},
		{api.ErrNoteField, func(n *api.Note) { n.Signatures = slices.Concat([]api.Signature{{}}, n.Signatures[1:]) }},
	}
}

// Where several are wrong, the answer is the one that the promise names first.
func TestOrderOfErrors(t *testing.T) {
	s := handOf(t, 1, 0)
	dead := handOf(t, 2, 0)
	dead.arm(1)
	dead.sign(with(), "b")
	for set := range 1 << len(spoils()) {
		n, want := with("a", "b"), api.OK
		for i, x := range slices.Backward(spoils()) {
			if set>>i&1 == 1 {
				x.spoil(&n)
				want = x.e
			}
		}
		if set>>3&1 == 1 && set&7 == 0 {
			want = api.ErrNoteMany
		}
		if _, e := isPrint(t, n); e != want {
			t.Errorf("N1: the faults %b: %d, want %d", set, e, want)
		}
		if set == 0 {
			continue
		}
		for _, name := range []string{"b", "B", "", "c"} {
			for _, h := range []hand{s, dead} {
				if _, e := h.sign(n, name); e != want {
					t.Errorf("N3: the faults %b, the name %q: %d, want %d", set, name, e, want)
				}
			}
			if e := isCheck(t, n, s.known(name)); e != want {
				t.Errorf("N4: the faults %b, the name %q: %d, want %d", set, name, e, want)
			}
		}
		// The first one is looked at as a whole ahead of the second one.
		for other := range 1 << len(spoils()) {
			m := with("a", "b")
			for i, x := range slices.Backward(spoils()) {
				if other>>i&1 == 1 {
					x.spoil(&m)
				}
			}
			if _, e := isMerge(t, n, m); e != want {
				t.Errorf("N5: the faults %b, then %b: %d, want %d", set, other, e, want)
			}
			isMerge(t, m, n)
			m.Head.Size++
			isMerge(t, m, n)
		}
	}
	if s.s.Left() != 1 {
		t.Error("N3: a key was spent on what was refused")
	}
}

// lineTexts are some that may or may not be one of a note's lines.
func lineTexts() []string {
	l := []string{
		"", " ", "log", "log ", " log", "log.example/1", "Log", "lo g", strings.Repeat("a", 32), strings.Repeat("a", 33), "é", "a\xff", "log\r", "\x00",
		"0", "1", "5", "00", "05", "-0", "-1", "+5", "5 ", " 5", "5.", "5e1", "0x5", "1_0", "0b1", "٣", "５", "5\r", "5\x00",
		"1099511627775", "1099511627776", "1099511627777", "01099511627776", "9999999999999", "10995116277760", "9223372036854775807", "9223372036854775808", "18446744073709551616", "18446744073709551621", "340282366920938463463374607431768211461", strings.Repeat("9", 100), strings.Repeat("0", 100) + "5",
		noughts, noughts + " ", " " + noughts, noughts + noughts, noughts[:43], noughts[:40], noughts[:42] + "==", noughts[:43] + "A", noughts[:42] + "B=", noughts[:42] + "E=", noughts + "=", "AAAA" + noughts, slowBase(text(3, 31)), slowBase(text(3, 32)), slowBase(text(3, 33)), strings.ToLower(noughts), noughts[:10] + "-" + noughts[11:], noughts[:10] + "_" + noughts[11:], noughts + "\r",
		"-", "- ", "-  ", "--", "- a", "- a ", "- a  ", "-a ZGE=", " - a ZGE=", "- a  ZGE=", "-  a ZGE=", "- a ZGE= ", "- a b ZGE=", "-\ta ZGE=", "- a\tZGE=", "- a ZGE=\r", "- a ZG E=", "- a ZGE", "- a ZGF=", "- a ZG==", "- a Z===", "- a =", "- a ====", "- a ZGE==", "- A ZGE=", "-  ZGE=", "- é ZGE=", "- a_ ZGE=", "* a ZGE=", "\u2014 a ZGE=", "\u2013 a ZGE=", "- a\u00a0ZGE=",
		"- a ZGE=", "- b ZGE=", "- c/1 ZGE=", "- z ZGE=", "- aa ZGE=", "- - ZGE=", "- . AA==", "- / //4=", "- 0 +/+/", "- " + strings.Repeat("a", 32) + " ZGE=", "- " + strings.Repeat("a", 33) + " ZGE=",
		"- k " + slowBase(text(3, 5999)), "- k " + slowBase(text(3, 6000)), "- k " + slowBase(text(3, 6001)), "- k " + slowBase(text(3, 6003)), "- k " + slowBase(text(3, 20000)),
	}
	return l
}

// Each line is held to what may stand there, also without an end, and as the last one.
func TestEachLine(t *testing.T) {
	right := []string{"log", "5", noughts, "", "- b ZGI=", "- c ZGI=", "- d ZGI="}
	taken := make([]int, len(right))
	for at := range right {
		for _, line := range lineTexts() {
			l := slices.Clone(right)
			l[at] = line
			whole := strings.Join(l, "\n") + "\n"
			if isParse(t, whole) == 0 {
				taken[at]++
			}
			isParse(t, whole[:len(whole)-1])
			isParse(t, strings.Join(l[:at+1], "\n")+"\n")
			isParse(t, strings.Join(l[:at+1], "\n"))
			isParse(t, whole+line)
			isParse(t, whole+"\n")
			isParse(t, strings.Join(slices.Insert(slices.Clone(right), at, line), "\n")+"\n")
			isParse(t, strings.Join(l, "\r\n")+"\r\n")
		}
		l := slices.Delete(slices.Clone(right), at, at+1)
		isParse(t, strings.Join(l, "\n")+"\n")
	}
	// Of sizes 0, 1, 5 and the two greatest, of roots three, and the empty line.
	if !slices.Equal(taken[1:4], []int{5, 3, 1}) {
		t.Errorf("N2: so many texts were taken of each line: %v", taken)
	}
}

// signedText is the text of a note with some signatures' lines.
func signedText(lines ...string) string {
	return "log\n5\n" + noughts + "\n\n" + strings.Join(append(lines, ""), "\n")
}

func TestManySignatures(t *testing.T) {
	var lines []string
	for i, name := range numbered(20) {
		if at := isParse(t, signedText(lines...)); i <= 16 && at != 0 || i > 16 && at != 21 {
			t.Errorf("N2: %d signatures: line %d", i, at)
		}
		lines = append(lines, "- "+name+" ZGE=")
	}
	// A wrong line ahead of the seventeenth is told first, one behind it is not.
	for at := range 20 {
		l := slices.Clone(lines)
		l[at] = "x"
		if got := isParse(t, signedText(l...)); got != min(at, 16)+5 {
			t.Errorf("N2: the signature %d is wrong: line %d", at, got)
		}
	}
	if at := isParse(t, signedText(lines[:16]...)+"x"); at != 21 {
		t.Errorf("N2: something stands behind sixteen signatures: line %d", at)
	}
}

// All texts of a few signs.
func TestShortTexts(t *testing.T) {
	for _, signs := range []string{"a\n", "0\n -", "a\n\xc3\xa9\r"} {
		l := []string{""}
		for range 5 {
			var longer []string
			for _, s := range l {
				isParse(t, s)
				for i := range len(signs) {
					longer = append(longer, s+signs[i:i+1])
				}
			}
			l = longer
		}
	}
}

// Each beginning of a note's text, and each text that is one byte away from it.
func TestTextsBesideANote(t *testing.T) {
	r := rand.New(rand.NewSource(2))
	taken := 0
	for range 8 {
		n := someNote(r)
		for i := range n.Signatures {
			n.Signatures[i].Data = n.Signatures[i].Data[:min(len(n.Signatures[i].Data), 1+r.Intn(4))]
		}
		s, _ := note.Print(n)
		for at := range len(s) {
			isParse(t, s[:at])
			isParse(t, s[at:])
			isParse(t, s[:at]+s[at+1:])
			for _, b := range []byte{s[at] + 1, s[at] - 1, s[at] ^ 0x20, s[at] ^ 0x80, '\n', ' ', '=', '-', '0', 'a', '\r', 0} {
				if isParse(t, s[:at]+string([]byte{b})+s[at+1:]) == 0 {
					taken++
				}
				isParse(t, s[:at]+string([]byte{b})+s[at:])
			}
			other := r.Intn(len(s))
			isParse(t, s[:min(at, other)]+s[max(at, other):])
			isParse(t, s[:max(at, other)]+s[min(at, other):])
		}
	}
	if taken < 100 {
		t.Errorf("N2: only %d other texts were taken", taken)
	}
}

// Any lines in a row.
func TestAnyLines(t *testing.T) {
	r := rand.New(rand.NewSource(3))
	lines := lineTexts()
	at := map[int]int{}
	for range 30000 {
		l := []string{"log", "5", noughts, ""}[:r.Intn(5)]
		l = slices.Clone(l)
		if len(l) == 4 {
			for _, s := range someSignatures(r, 17) {
				l = append(l, "- "+s.Name+" "+slowBase(s.Data[:min(len(s.Data), 50)]))
			}
		}
		for range r.Intn(3) {
			l = slices.Insert(l, r.Intn(len(l)+1), lines[r.Intn(len(lines))])
		}
		s := strings.Join(l, "\n")
		if r.Intn(10) > 0 {
			s += "\n"
		}
		at[isParse(t, s)]++
	}
	for line := range 8 {
		if at[line] < 50 {
			t.Errorf("N2: the line %d was told only %d times", line, at[line])
		}
	}
}

// A line without an end, of many signs, is told as well.
func TestLongTexts(t *testing.T) {
	if testing.Short() {
		t.Skip("long texts")
	}
	long := strings.Repeat("A", 1<<22)
	for at, lines := range [][]string{{}, {"log"}, {"log", "5"}, {"log", "5", noughts}, {"log", "5", noughts, ""}} {
		ahead := strings.Join(append(lines, ""), "\n")
		for _, s := range []string{long, strings.ToLower(long), "- a " + long, strings.Repeat("é", 1<<20), strings.Repeat("\xff", 1<<20), strings.Repeat("9", 1<<20), strings.Repeat("\n", 1<<20) + "x"} {
			isParse(t, ahead+s)
			if got := isParse(t, ahead+s+"\n"); got < at+1 {
				t.Errorf("N2: a long line %d: %d", at+1, got)
			}
		}
	}
}

func TestSign(t *testing.T) {
	h := handOf(t, 1, 4)
	names := []string{"a", "b", "b-", "b.", "c/1", strings.Repeat("z", 32)}
	n, e := h.sign(plain(5), "b")
	if e != api.OK || isCheck(t, n, h.known("b")) != api.OK {
		t.Fatalf("N3: Sign: %d", e)
	}
	body, _ := note.Body(n)
	if e := signer.Verify(h.s.Key(), body+"b\n", n.Signatures[0].Data); e != api.OK {
		t.Errorf("N3: what is signed: %d", e)
	}
	for _, text := range []string{body, body + "b", body + "a\n", body + "\nb\n", "b\n" + body, strings.TrimSpace(body)} {
		if e := signer.Verify(h.s.Key(), text, n.Signatures[0].Data); e != api.ErrSignerBad {
			t.Errorf("N3: it has signed %q: %d", text, e)
		}
	}
	// At its place: the first, between others, the last; and in the place of one that was there.
	n = with("aa", "b0", "y")
	for i, name := range names {
		n, e = h.sign(n, name)
		if e != api.OK || len(n.Signatures) != 4+i {
			t.Errorf("N3: Sign of %q: %s, %d", name, short(n), e)
		}
	}
	for _, name := range names {
		was := len(n.Signatures)
		again, e := h.sign(n, name)
		if e != api.OK || len(again.Signatures) != was || sameNote(again, n) || isCheck(t, again, h.known(name)) != api.OK {
			t.Errorf("N3: Sign of %q again: %s, %d", name, short(again), e)
		}
	}
	for _, name := range oddNames()[:40] {
		if _, e := h.sign(plain(5), name); e != api.ErrNoteField {
			t.Errorf("N3: Sign of %q: %d", name, e)
		}
	}
	for h.s.Left() > 0 {
		h.sign(plain(h.s.Left()), "a")
	}
	if _, e := h.sign(plain(5), "a"); e != api.ErrSignerUsed {
		t.Errorf("N3: no key is left: %d", e)
	}
}

func TestSignFullNotes(t *testing.T) {
	names := numbered(16)
	full := with(names...)
	h := handOf(t, 2, 5)
	for _, name := range []string{"a", "name-0", "name-00a", "name-07-", "name-15a", "zz"} {
		if _, e := h.sign(full, name); e != api.ErrNoteMany {
			t.Errorf("N3: a seventeenth, %q: %d", name, e)
		}
		if _, e := h.sign(full, name+" "); e != api.ErrNoteField {
			t.Errorf("N3: a seventeenth, no name: %d", e)
		}
	}
	if h.s.Left() != 32 {
		t.Error("N3: a key was spent on what was refused")
	}
	for i, name := range names {
		n, e := h.sign(full, name)
		if e != api.OK || len(n.Signatures) != 16 || n.Signatures[i].Data == full.Signatures[i].Data {
			t.Errorf("N3: in the place of %q: %s, %d", name, short(n), e)
		}
		fifteen := full
		fifteen.Signatures = slices.Delete(slices.Clone(full.Signatures), i, i+1)
		if n, e := h.sign(fifteen, name); e != api.OK || n.Signatures[i].Name != name {
			t.Errorf("N3: a sixteenth, %q: %s, %d", name, short(n), e)
		}
	}
}

// The signer's errors are told behind the note's, and nothing else is.
func TestSignersErrors(t *testing.T) {
	h := handOf(t, 3, 1)
	full := with(numbered(16)...)
	other, _ := signer.Open(h.d)
	twin, _ := signer.Open(h.twinOf)
	other.Sign("x")
	twin.Sign("x")
	if _, e := h.sign(plain(1), "a"); e != api.ErrSignerBack {
		t.Errorf("N3: in doubt: %d", e)
	}
	h.s, h.twin = other, twin
	h.arm(1)
	if _, e := h.sign(plain(1), "a"); e != api.ErrDead {
		t.Errorf("N3: it dies: %d", e)
	}
	for name, want := range map[string]api.Errno{"name-03": api.ErrDead, "a": api.ErrNoteMany, "A": api.ErrNoteField} {
		if _, e := h.sign(full, name); e != want {
			t.Errorf("N3: of a dead one, %q: %d, want %d", name, e, want)
		}
	}
	for _, s := range []*signer.Signer{nil, {}} {
		if n, e := note.Sign(plain(1), "a", s); !sameNote(n, api.Note{}) || e != api.ErrDead {
			t.Errorf("N3: of no signer: %s, %d", short(n), e)
		}
		if _, e := note.Sign(plain(1), "A", s); e != api.ErrNoteField {
			t.Errorf("N3: of no signer, no name: %d", e)
		}
	}
}

func TestCheck(t *testing.T) {
	h, other := handOf(t, 4, 3), handOf(t, 5, 3)
	n, _ := h.sign(with("a", "c"), "b")
	n, _ = other.sign(n, "d")
	key := h.s.Key()
	for _, c := range []struct {
		k api.Known
		e api.Errno
	}{
		{h.known("b"), api.OK}, {other.known("d"), api.OK}, {h.known("d"), api.ErrNoteBad}, {other.known("b"), api.ErrNoteBad},
		{h.known("a"), api.ErrNoteBad}, {h.known("e"), api.ErrNoteNone}, {h.known(""), api.ErrNoteNone}, {h.known("B"), api.ErrNoteNone}, {h.known("b\n"), api.ErrNoteNone}, {h.known("bb"), api.ErrNoteNone},
		{api.Known{}, api.ErrNoteNone}, {api.Known{Name: "b"}, api.ErrNoteBad}, {api.Known{Name: "b", Key: key[:31]}, api.ErrNoteBad}, {api.Known{Name: "b", Key: key + "\x00"}, api.ErrNoteBad}, {api.Known{Name: "b", Key: digest.Hex(key)}, api.ErrNoteBad},
	} {
		if e := isCheck(t, n, c.k); e != c.e {
			t.Errorf("N4: %q: %d, want %d", c.k.Name, e, c.e)
		}
	}
	if e := isCheck(t, plain(5), h.known("b")); e != api.ErrNoteNone {
		t.Errorf("N4: nobody has signed it: %d", e)
	}
}

// What is signed is the whole body and the name: whatever else these were, the signature is not right.
func TestSignedIsTheWhole(t *testing.T) {
	h := handOf(t, 6, 2)
	n, _ := h.sign(with("a", "c"), "b")
	for _, spoil := range []func(n *api.Note){
		func(n *api.Note) { n.Origin = "log.example/2" },
		func(n *api.Note) { n.Origin = "log.example/" },
		func(n *api.Note) { n.Head.Size = 6 },
		func(n *api.Note) { n.Head.Size = 50 },
		func(n *api.Note) { n.Head.Root = text(6, 32) },
		func(n *api.Note) { n.Head.Root = n.Head.Root[:31] + "x" },
		func(n *api.Note) { n.Signatures[1].Data += "x" },
		func(n *api.Note) { n.Signatures[1].Data = n.Signatures[1].Data[1:] },
		func(n *api.Note) { n.Signatures[1].Data = "x" },
		func(n *api.Note) { n.Signatures[1].Data = text(1, len(n.Signatures[1].Data)) },
		func(n *api.Note) { n.Signatures[0].Data = n.Signatures[1].Data },
	} {
		x := n
		x.Signatures = slices.Clone(n.Signatures)
		spoil(&x)
		e := isCheck(t, x, h.known("b"))
		if same := x.Head == n.Head && x.Origin == n.Origin && x.Signatures[1] == n.Signatures[1]; (e == api.OK) != same || !same && e != api.ErrNoteBad {
			t.Errorf("N4: %s: %d", short(x), e)
		}
	}
	// Under another name the same bytes are no signature.
	x := with("bb")
	x.Signatures[0].Data = n.Signatures[1].Data
	if e := isCheck(t, x, h.known("bb")); e != api.ErrNoteBad {
		t.Errorf("N4: another one's signature: %d", e)
	}
	// Other signatures change nothing.
	x = n
	x.Signatures = []api.Signature{n.Signatures[1]}
	if e := isCheck(t, x, h.known("b")); e != api.OK {
		t.Errorf("N4: alone: %d", e)
	}
}

func TestMerge(t *testing.T) {
	a, b := with("a", "c", "d"), with("b", "c", "e")
	b.Signatures[1].Data = "other"
	n, e := isMerge(t, a, b)
	if e != api.OK || strings.Join(namesOf(n.Signatures), " ") != "a b c d e" || n.Signatures[2].Data != "data of c" {
		t.Errorf("N5: %s, %d", short(n), e)
	}
	if n, _ = isMerge(t, b, a); n.Signatures[2].Data != "other" {
		t.Error("N5: of a name that both have it is not the first one's")
	}
	for _, spoil := range []func(n *api.Note){
		func(n *api.Note) { n.Origin = "log" },
		func(n *api.Note) { n.Head.Size = 50 },
		func(n *api.Note) { n.Head.Root = text(6, 32) },
	} {
		x := b
		spoil(&x)
		if _, e := isMerge(t, a, x); e != api.ErrNoteForm {
			t.Errorf("N5: another body: %d", e)
		}
		if _, e := isMerge(t, x, a); e != api.ErrNoteForm {
			t.Errorf("N5: another body: %d", e)
		}
	}
	// Unlike bodies are told ahead of too many signatures.
	l := numbered(32)
	many, others := with(l[:16]...), with(l[16:]...)
	others.Head.Size++
	if _, e := isMerge(t, many, others); e != api.ErrNoteForm {
		t.Errorf("N5: another body, and too many: %d", e)
	}
}

func TestMergeCounts(t *testing.T) {
	l := numbered(32)
	for x := range 17 {
		for y := range 17 {
			for _, from := range []int{0, x / 2, max(0, x-1), x} {
				both := min(y, x-from)
				_, e := isMerge(t, with(l[:x]...), with(l[from:from+y]...))
				if (e == api.OK) != (x+y-both <= 16) || e != api.OK && e != api.ErrNoteMany {
					t.Errorf("N5: %d and %d signatures, %d of both: %d", x, y, both, e)
				}
				isMerge(t, with(l[from:from+y]...), with(l[:x]...))
			}
		}
	}
}

func TestAnyMerges(t *testing.T) {
	r := rand.New(rand.NewSource(4))
	done := map[api.Errno]int{}
	for range 3000 {
		a := someNote(r)
		b := a
		b.Signatures = someSignatures(r, 16)
		for _, s := range a.Signatures {
			if m := mapOf(b.Signatures); r.Intn(3) == 0 && len(m) < 16 {
				m[s.Name] = "b's"
				b.Signatures = listOf(m)
			}
		}
		switch r.Intn(10) {
		case 0:
			b.Head.Size = someSize(r)
		case 1:
			b.Origin = someName(r, 32)
		case 2:
			b.Head.Root = text(r.Intn(256), 32)
		}
		_, e := isMerge(t, a, b)
		done[e]++
	}
	if done[api.OK] < 100 || done[api.ErrNoteForm] < 100 || done[api.ErrNoteMany] < 100 {
		t.Errorf("N5: outcomes: %v", done)
	}
}
