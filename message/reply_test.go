package message_test

import (
	"math"
	"math/rand"
	"slices"
	"strings"
	"testing"

	"scrivener/api"
	"scrivener/message"
)

func hash(letter string) string { return strings.Repeat(letter, 32) }

// isEncodeReply holds EncodeReply to the model, and what it tells to DecodeReply, with more behind it.
func isEncodeReply(t *testing.T, kind int, r api.Reply) api.Errno {
	t.Helper()
	want, wrong := slowEncodeReply(kind, r)
	s, e := message.EncodeReply(kind, r)
	if s != want || e != wrong {
		t.Errorf("M3: %d, %s: %s, %d, want %s, %d", kind, short(r), short(s), e, short(want), wrong)
	}
	if wrong != api.OK {
		return wrong
	}
	for _, more := range []string{"", "x", "\x80", want} {
		if is, rest, e := message.DecodeReply(kind, want+more); !sameReply(is, r) || rest != more || e != api.OK {
			t.Errorf("M4, M5: %d, %s and %s: %s, %s, %d", kind, short(want), short(more), short(is), short(rest), e)
		}
	}
	return api.OK
}

// isDecodeReply holds DecodeReply to the model, and what it tells to EncodeReply.
func isDecodeReply(t *testing.T, kind int, s string) api.Errno {
	t.Helper()
	want, more, wrong := slowDecodeReply(kind, s)
	r, rest, e := message.DecodeReply(kind, s)
	if !sameReply(r, want) || rest != more || e != wrong {
		t.Errorf("M4: %d, %s: %s, %s, %d, want %s, %s, %d", kind, short(s), short(r), short(rest), e, short(want), short(more), wrong)
	}
	if e != api.OK {
		return e
	}
	if again, e := message.EncodeReply(kind, r); again+rest != s || e != api.OK {
		t.Errorf("M5: %d, %s was read as %s, which is %s, %d", kind, short(s), short(r), short(again), e)
	}
	return api.OK
}

// The chapter's third example.
func TestReplyExamples(t *testing.T) {
	for _, c := range []struct {
		kind int
		r    api.Reply
		s    string
		e    api.Errno
	}{
		{2, api.Reply{Status: api.NotThere}, bytesOf(2, 2, 2), api.OK},
		{0, api.Reply{Status: api.BadFrame}, bytesOf(2, 0, 1), api.OK},
		{0, api.Reply{Status: api.Done}, "", api.ErrMessageField},
		{11, api.Reply{Status: api.Done}, bytesOf(2, 11, 0), api.OK},
		{12, api.Reply{Replies: []api.Reply{{Status: api.NotThere}, {}}}, bytesOf(7, 12, 0, 2, 2, 0, 0, 0), api.OK},
	} {
		if s, e := message.EncodeReply(c.kind, c.r); s != c.s || e != c.e {
			t.Errorf("M3: %d, %v: %x, %d, want %x, %d", c.kind, c.r, s, e, c.s, c.e)
		}
		if c.e != api.OK {
			continue
		}
		if r, rest, e := message.DecodeReply(c.kind, c.s); !sameReply(r, c.r) || rest != "" || e != api.OK {
			t.Errorf("M4: %d, %x: %v, %x, %d", c.kind, c.s, r, rest, e)
		}
	}
}

// Each kind as it stands in the chapter's table.
func TestReplyKinds(t *testing.T) {
	h, g := hash("h"), hash("g")
	proof := api.Reply{Hashes: []string{h, g}}
	for _, c := range []struct {
		kind    int
		r       api.Reply
		payload string
	}{
		{1, api.Reply{Size: 7, A: 5, Root: h}, bytesOf(1, 0, 7, 5) + h},
		{2, api.Reply{Size: 7, Root: h}, bytesOf(2, 0, 7) + h},
		{3, api.Reply{Root: h}, bytesOf(3, 0) + h},
		{4, proof, bytesOf(4, 0, 2) + h + g},
		{5, proof, bytesOf(5, 0, 2) + h + g},
		{6, proof, bytesOf(6, 0, 2) + h + g},
		{7, proof, bytesOf(7, 0, 2) + h + g},
		{8, api.Reply{Entries: []string{"ab", ""}, Hashes: []string{h}}, bytesOf(8, 0, 2, 2, 'a', 'b', 0, 1) + h},
		{9, api.Reply{A: 6}, bytesOf(9, 0, 6)},
		{10, api.Reply{A: 6, B: 1, Entries: []string{"c"}, Hashes: []string{g}}, bytesOf(10, 0, 6, 1, 1, 1, 'c', 1) + g},
		{10, api.Reply{}, bytesOf(10, 0, 0, 0, 0, 0)},
		{11, api.Reply{}, bytesOf(11, 0)},
		{12, api.Reply{Replies: []api.Reply{{Root: h}, {Hashes: []string{g}}, {Status: api.TooLong}, {}}}, bytesOf(12, 0, 4, 0, 1) + h + bytesOf(0, 0, 1) + g + bytesOf(4, 0, 0, 0)},
	} {
		want := framed(c.payload)
		if s, e := message.EncodeReply(c.kind, c.r); s != want || e != api.OK {
			t.Errorf("M3: %d, %x: %x, %d, want %x", c.kind, c.r, s, e, want)
		}
		if r, rest, e := message.DecodeReply(c.kind, want); !sameReply(r, c.r) || rest != "" || e != api.OK {
			t.Errorf("M4: %d, %x: %x, %x, %d", c.kind, want, r, rest, e)
		}
		for kind := range 13 {
			if kind == c.kind {
				continue
			}
			if r, rest, e := message.DecodeReply(kind, want); !sameReply(r, api.Reply{}) || rest != "" || e != api.ErrMessageForm {
				t.Errorf("M4: %x, as a reply to the kind %d: %x, %x, %d", want, kind, r, rest, e)
			}
		}
	}
}

func TestReplyToNoKind(t *testing.T) {
	for _, kind := range []int{math.MinInt, -256, -1, 13, 256, 258, math.MaxInt} {
		for _, r := range []api.Reply{{}, {Status: api.BadFrame}, {Status: 99}, {Size: -1}, {Hashes: make([]string, 1)}} {
			if s, e := message.EncodeReply(kind, r); s != "" || e != api.ErrMessageKind {
				t.Errorf("M3: %d, %v: %x, %d", kind, r, s, e)
			}
		}
		for _, s := range []string{"", "\x02\x02\x02", "\x81\x80\x40", "\x80\x00", "\x02\x00\x01", "\x02" + bytesOf(byte(kind)) + "\x00"} {
			if r, rest, e := message.DecodeReply(kind, s); !sameReply(r, api.Reply{}) || rest != "" || e != api.ErrMessageKind {
				t.Errorf("M4: %d, %x: %v, %x, %d", kind, s, r, rest, e)
			}
		}
	}
}

// Whatever the Status is: it has nothing else, if it is not Done.
func TestStatuses(t *testing.T) {
	h := hash("h")
	r := rand.New(rand.NewSource(4))
	for kind := range 13 {
		for _, status := range []api.Status{math.MinInt, -256, -1, 0, 1, 2, 3, 4, 5, 6, 7, 8, 9, 10, 255, 256, 257, math.MaxInt} {
			e := isEncodeReply(t, kind, api.Reply{Status: status, Hashes: []string{}, Entries: []string{}, Replies: []api.Reply{}})
			if ok := status >= 1 && status <= 8; ok != (e == api.OK) && status != api.Done {
				t.Errorf("M3: %d, the Status %d: %d", kind, status, e)
			}
			isEncodeReply(t, 12, api.Reply{Replies: []api.Reply{{Root: h}, {Status: status}}})
			for _, x := range []api.Reply{{Size: 1}, {A: 1}, {B: 1}, {Size: -1}, {A: -1}, {B: -1}, {Root: h}, {Root: "r"}, {Hashes: []string{h}}, {Hashes: []string{""}}, {Entries: []string{""}}, {Replies: []api.Reply{{}}}, someReply(r, kind, 3)} {
				x.Status = status
				isEncodeReply(t, kind, x)
				isEncodeReply(t, 12, api.Reply{Replies: []api.Reply{x}})
				isEncodeReply(t, 12, api.Reply{Status: status, Replies: []api.Reply{{Root: h}, x}})
			}
		}
	}
}

// hashLists are such as may be hashes, and others.
func hashLists() [][]string {
	h := hash("h")
	return [][]string{
		nil, {}, {h}, {""}, {h[1:]}, {h + "h"}, {h, ""}, {h, h}, {h, h[1:]}, {h, h + "h"}, {h[1:], h + "h"}, {h + h},
		slices.Repeat([]string{h}, 127), slices.Repeat([]string{h}, 128), slices.Repeat([]string{h}, 4097),
	}
}

// Each field of each kind, at its edges and beyond.
func TestReplyFields(t *testing.T) {
	h := hash("h")
	taken := 0
	is := func(kind int, r api.Reply) {
		if isEncodeReply(t, kind, r) == api.OK {
			taken++
		}
		isEncodeReply(t, 12, api.Reply{Replies: []api.Reply{r, {Status: api.NotThere}}})
	}
	for kind := range 13 {
		for _, n := range numbers {
			is(kind, api.Reply{Size: n})
			is(kind, api.Reply{A: n})
			is(kind, api.Reply{B: n})
			is(kind, api.Reply{Size: n, Root: h})
			is(kind, api.Reply{Size: 1, A: n, Root: h})
			is(kind, api.Reply{A: n, B: 1})
			is(kind, api.Reply{A: 2, B: n, Root: h})
		}
		for _, b := range []int{-255, -1, 0, 1, 2, 3, 255, 256, 257} {
			is(kind, api.Reply{B: b})
		}
		for _, root := range []string{"", "r", h[1:], h, h + "h", h + h} {
			is(kind, api.Reply{Root: root})
			is(kind, api.Reply{Size: 1, Root: root})
			is(kind, api.Reply{Hashes: []string{h}, Root: root})
		}
		for _, l := range hashLists() {
			is(kind, api.Reply{Hashes: l})
			is(kind, api.Reply{Hashes: l, Entries: []string{"e"}})
		}
		for _, l := range texts() {
			is(kind, api.Reply{Entries: l})
			is(kind, api.Reply{Entries: l, Hashes: []string{h}})
		}
	}
	if taken < 200 {
		t.Errorf("only %d were taken", taken)
	}
}

// A field that a kind has not must be zero, a list without elements; so within parts.
func TestReplyOtherFields(t *testing.T) {
	r := rand.New(rand.NewSource(5))
	others := []func(*api.Reply){
		func(x *api.Reply) { x.A++ }, func(x *api.Reply) { x.B++ }, func(x *api.Reply) { x.Size++ }, func(x *api.Reply) { x.Status++ },
		func(x *api.Reply) { x.A-- }, func(x *api.Reply) { x.B-- }, func(x *api.Reply) { x.Size-- }, func(x *api.Reply) { x.Status-- },
		func(x *api.Reply) { x.Root += "r" }, func(x *api.Reply) { x.Root = hash("r") }, func(x *api.Reply) { x.Root = "" },
		func(x *api.Reply) { x.Hashes = append(x.Hashes, hash("h")) }, func(x *api.Reply) { x.Hashes = append(x.Hashes, "h") },
		func(x *api.Reply) { x.Entries = append(x.Entries, "") }, func(x *api.Reply) { x.Replies = append(x.Replies, api.Reply{}) },
		func(x *api.Reply) { x.Replies = append(x.Replies, api.Reply{Replies: x.Replies}) },
	}
	for range 100 {
		for kind := range 13 {
			was := someReply(r, kind, 3)
			for _, change := range others {
				x := was
				x.Hashes, x.Entries, x.Replies = slices.Clone(x.Hashes), slices.Clone(x.Entries), slices.Clone(x.Replies)
				change(&x)
				isEncodeReply(t, kind, x)
				isEncodeReply(t, 12, api.Reply{Replies: []api.Reply{{}, x}})
			}
			was.Hashes, was.Entries, was.Replies = append([]string{}, was.Hashes...), append([]string{}, was.Entries...), append([]api.Reply{}, was.Replies...)
			if e := isEncodeReply(t, kind, was); e != api.OK {
				t.Errorf("M3: %d, %s, with lists without elements: %d", kind, short(was), e)
			}
		}
	}
}

func TestParts(t *testing.T) {
	h := hash("h")
	for _, many := range []int{0, 1, 2, 63, 64, 65, 128, 1000} {
		for _, part := range []api.Reply{{}, {Status: api.Doubt}, {Root: h}, {Hashes: []string{h}}} {
			if e := isEncodeReply(t, 12, api.Reply{Replies: slices.Repeat([]api.Reply{part}, many)}); (e == api.OK) != (many >= 1 && many <= 64) {
				t.Errorf("M3: %d parts: %d", many, e)
			}
		}
	}
	for _, root := range []string{"", "r", h[1:], h, h + "h"} {
		for _, l := range hashLists() {
			for _, status := range []api.Status{-1, 0, 1, 8, 9} {
				part := api.Reply{Status: status, Root: root, Hashes: l}
				isEncodeReply(t, 12, api.Reply{Replies: []api.Reply{part}})
				isEncodeReply(t, 12, api.Reply{Replies: []api.Reply{{Root: h}, part, {Status: api.NotThere}}})
			}
		}
	}
	// Nested far down: refused as it is met.
	x := api.Reply{Root: h}
	for range 1 << 16 {
		x = api.Reply{Replies: []api.Reply{x}}
	}
	if s, e := message.EncodeReply(12, x); s != "" || e != api.ErrMessageField {
		t.Errorf("M3: parts within parts: %x, %d", s, e)
	}
}

// Too long is what has more than 1048576 bytes, and else may be.
func TestLongReplies(t *testing.T) {
	h := hash("h")
	many := slices.Repeat([]string{h}, 32769)
	for kind := 4; kind <= 7; kind++ {
		for n, want := range map[int]api.Errno{32767: api.OK, 32768: api.ErrMessageLong, 32769: api.ErrMessageField} {
			if e := isEncodeReply(t, kind, api.Reply{Hashes: many[:n]}); e != want {
				t.Errorf("M3: %d, %d hashes: %d", kind, n, e)
			}
		}
	}
	// Each of 1000 bytes takes 1002; two bytes stand ahead of the fields, two tell how many entries there are, one that there are no hashes.
	full := slices.Repeat([]string{strings.Repeat("e", 1000)}, 1046)
	left := 1048576 - 5 - 1046*1002
	for more, want := range map[int]api.Errno{-1: api.OK, 0: api.OK, 1: api.ErrMessageLong, 2: api.ErrMessageLong} {
		entries := append(slices.Clone(full), strings.Repeat("f", left-2+more))
		if s, e := message.EncodeReply(8, api.Reply{Entries: entries}); e != want || e == api.OK && len(s) != 1048576+more+3 {
			t.Errorf("M3: with %d bytes more than fit: %d bytes, %d", more, len(s), e)
		}
		isEncodeReply(t, 8, api.Reply{Entries: entries})
	}
	// A field that may not be is told ahead of it.
	for _, r := range []api.Reply{{Hashes: append(slices.Clone(many[:32767]), "h")}, {Hashes: many[:32768], A: 1}, {Hashes: many[:32768], Root: h}, {Hashes: many[:32768], Replies: []api.Reply{{}}}, {Hashes: many[:32768], Status: 9}} {
		if e := isEncodeReply(t, 4, r); e != api.ErrMessageField {
			t.Errorf("M3: too long, and a field that may not be: %d", e)
		}
	}
	part := api.Reply{Hashes: many[:16384]}
	for _, c := range []struct {
		l    []api.Reply
		want api.Errno
	}{
		{[]api.Reply{part}, api.OK},
		{[]api.Reply{part, {Hashes: many[:16383]}}, api.OK},
		{[]api.Reply{part, part}, api.ErrMessageLong},
		{slices.Repeat([]api.Reply{part}, 64), api.ErrMessageLong},
		{[]api.Reply{{Hashes: many[:32768]}}, api.ErrMessageLong},
		{[]api.Reply{{Hashes: many}}, api.ErrMessageField},
		{append(slices.Repeat([]api.Reply{part}, 5), api.Reply{Status: 9}), api.ErrMessageField},
		{append(slices.Repeat([]api.Reply{part}, 5), api.Reply{A: 1}), api.ErrMessageField},
		{slices.Repeat([]api.Reply{part}, 65), api.ErrMessageField},
	} {
		if e := isEncodeReply(t, 12, api.Reply{Replies: c.l}); e != c.want {
			t.Errorf("M3: %d parts: %d, want %d", len(c.l), e, c.want)
		}
	}
	if e := isEncodeReply(t, 10, api.Reply{Entries: slices.Repeat([]string{full[0]}, 4096), Hashes: many[:32768], B: 1}); e != api.ErrMessageLong {
		t.Errorf("M3: as much as may be of all: %d", e)
	}
}

func TestReplyBytes(t *testing.T) {
	h := hash("h")
	for kind := range 14 {
		k := bytesOf(byte(kind))
		wrong := []string{"", k, k + "\x09", k + "\xff", k + "\x01\x00", k + "\x08\x00", k + "\x02" + h, k + "\x80\x00"}
		for _, behind := range []string{"", "\x00", "\x01", "\x02", h, "\x00" + h, "\x01" + h, "\x02" + h, "\x01" + h[1:], "\x01" + h + "x", "\x00\x00", "\x01\x00", "\x01\x01", "\x01\x02", "\x00\x00" + h, "\x03\x02" + h, "\x03\x02" + h[1:],
			"\x00\x00\x00\x00", "\x00\x01\x00\x00", "\x00\x02\x00\x00", "\x00\x00\x01\x00\x00", "\x00\x00\x00\x01" + h, "\x00\x01" + h, "\x01\x00\x01" + h, "\x01\x00\x00", "\x01\x00\x02\x00", "\x01\x00\x02" + h, "\x01\x00\x01" + h[1:],
			"\x01\x09", "\x01\x08", "\x02\x08", "\x02\x08\x07\x06", "\x40" + strings.Repeat("\x03", 64), "\x41" + strings.Repeat("\x03", 65), "\x81\x20" + strings.Repeat("\x00", 4098), "\x80\x20" + strings.Repeat("\x00", 4097),
			"\x01\xe9\x07" + strings.Repeat("e", 1001) + "\x00", "\x01\xe8\x07" + strings.Repeat("e", 1000) + "\x00", "\x80\x80\x02" + h, "\x81\x80\x02" + h} {
			wrong = append(wrong, k+"\x00"+behind, k+"\x00\x05"+behind, k+"\x00\x05\x01"+behind)
		}
		for _, n := range wrongNumbers {
			wrong = append(wrong, k+"\x00"+n, k+"\x00"+n+h, k+"\x00\x01"+n, k+"\x00\x01"+n+h, k+"\x00"+n+"\x00\x00\x00", k+"\x00\x01\x00"+n, k+"\x00\x01\x00"+n+h)
		}
		for _, payload := range wrong {
			for to := range 13 {
				isDecodeReply(t, to, framed(payload)+"more")
			}
		}
	}
}

func TestReplyFrames(t *testing.T) {
	for kind := range 13 {
		for _, c := range frameFaults {
			if r, rest, e := message.DecodeReply(kind, c.s); !sameReply(r, api.Reply{}) || rest != "" || e != c.e {
				t.Errorf("M4: %d, %x: %v, %x, %d, want %d", kind, c.s, r, rest, e, c.e)
			}
		}
	}
}

// All frames of few bytes, to all kinds.
func TestAllSmallReplies(t *testing.T) {
	read := 0
	is := func(kind int, payload ...byte) {
		if isDecodeReply(t, kind, framed(string(payload))) == api.OK {
			read++
		}
	}
	for kind := range 13 {
		for a := range 256 {
			is(kind, byte(a))
			is(kind, byte(a), 0)
			is(kind, byte(a), 1)
			is(kind, byte(kind), byte(a))
			for b := range 256 {
				is(kind, byte(kind), 0, byte(a), byte(b))
			}
		}
		for i := range byte(200) {
			is(kind, byte(kind), 0, i/25, i/5%5, i%5)
			is(kind, byte(kind), 0, 1, i/25, i/5%5, i%5)
			is(kind, byte(kind), 0, 2, i/25, i/5%5, i%5)
			is(kind, byte(kind), 0, 2, 0, i/25, i/5%5, i%5)
		}
	}
	if read < 500 {
		t.Errorf("only %d were read", read)
	}
}

func TestSomeReplies(t *testing.T) {
	r := rand.New(rand.NewSource(6))
	for i := range 3000 {
		kind := r.Intn(13)
		x := someReply(r, kind, []int{2, 5, 100}[i%3])
		if e := isEncodeReply(t, kind, x); e != api.OK {
			t.Fatalf("M3: %d, %s: %d", kind, short(x), e)
		}
	}
}

func TestSpoiltReplies(t *testing.T) {
	rows := 200000
	if testing.Short() {
		rows = 20000
	}
	r := rand.New(rand.NewSource(7))
	read := 0
	for i := range rows {
		kind := r.Intn(13)
		s, _ := slowEncodeReply(kind, someReply(r, kind, 3))
		payload, _, _ := slowUnframe(s)
		if i%4 == 0 {
			s = spoilt(r, s)
		} else {
			s = framed(spoilt(r, payload)) + "more"
		}
		if isDecodeReply(t, kind, s) == api.OK {
			read++
		}
	}
	if read < rows/20 || read > rows*9/10 {
		t.Errorf("%d of %d were read", read, rows)
	}
}
