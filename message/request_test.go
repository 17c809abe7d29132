package message_test

import (
	"math"
	"math/rand"
	"slices"
	"strings"
	"testing"

	"scrivener/api"
	"scrivener/message"
)

func bytesOf(numbers ...byte) string { return string(numbers) }

// upTo are so many numbers, from one on.
func upTo(from, many int) []int {
	l := make([]int, many)
	for i := range l {
		l[i] = from + i
	}
	return l
}

func ask(kind int) api.Request { return api.Request{Kind: kind} }

// isEncode holds Encode to the model, and what it tells to Decode, with more behind it.
func isEncode(t *testing.T, r api.Request) api.Errno {
	t.Helper()
	want, wrong := slowEncode(r)
	s, e := message.Encode(r)
	if s != want || e != wrong {
		t.Errorf("M1: %s: %s, %d, want %s, %d", short(r), short(s), e, short(want), wrong)
	}
	if wrong != api.OK {
		return wrong
	}
	for _, more := range []string{"", "x", "\x80", want} {
		if is, rest, e := message.Decode(want + more); !sameRequest(is, r) || rest != more || e != api.OK {
			t.Errorf("M2, M5: %s and %s: %s, %s, %d", short(want), short(more), short(is), short(rest), e)
		}
	}
	return api.OK
}

// isDecode holds Decode to the model, and what it tells to Encode.
func isDecode(t *testing.T, s string) api.Errno {
	t.Helper()
	want, more, wrong := slowDecode(s)
	r, rest, e := message.Decode(s)
	if !sameRequest(r, want) || rest != more || e != wrong {
		t.Errorf("M2: %s: %s, %s, %d, want %s, %s, %d", short(s), short(r), short(rest), e, short(want), short(more), wrong)
	}
	if e != api.OK {
		return e
	}
	if again, e := message.Encode(r); again+rest != s || e != api.OK {
		t.Errorf("M5: %s was read as %s, which is %s, %d", short(s), short(r), short(again), e)
	}
	return api.OK
}

// The chapter's first two examples.
func TestRequestExamples(t *testing.T) {
	for _, c := range []struct {
		r api.Request
		s string
		e api.Errno
	}{
		{ask(api.AskHead), bytesOf(1, 2), api.OK},
		{api.Request{Kind: api.AskInclusion, A: 3, Size: 300}, bytesOf(4, 4, 3, 172, 2), api.OK},
		{api.Request{Kind: api.AskChain, List: []int{1, 5}}, bytesOf(4, 7, 2, 1, 3), api.OK},
		{api.Request{Kind: api.AskGroup, Asks: []api.Request{{Kind: api.AskRoot, Size: 9}}}, bytesOf(4, 12, 1, 3, 9), api.OK},
		{api.Request{Kind: api.AskHead, Size: 1}, "", api.ErrMessageField},
		{api.Request{Kind: api.AskGroup, Asks: []api.Request{ask(api.AskHead)}}, "", api.ErrMessageField},
	} {
		if s, e := message.Encode(c.r); s != c.s || e != c.e {
			t.Errorf("M1: %v: %x, %d, want %x, %d", c.r, s, e, c.s, c.e)
		}
	}
	for _, c := range []struct {
		s    string
		r    api.Request
		rest string
		e    api.Errno
	}{
		{bytesOf(1, 2, 7), ask(api.AskHead), bytesOf(7), api.OK},
		{bytesOf(1), api.Request{}, "", api.ErrMessageShort},
		{bytesOf(2, 2, 7), api.Request{}, "", api.ErrMessageForm},
		{bytesOf(129, 128, 64), api.Request{}, "", api.ErrMessageLong},
	} {
		if r, rest, e := message.Decode(c.s); !sameRequest(r, c.r) || rest != c.rest || e != c.e {
			t.Errorf("M2: %x: %v, %x, %d, want %v, %x, %d", c.s, r, rest, e, c.r, c.rest, c.e)
		}
	}
}

// Each kind as it stands in the chapter's table.
func TestRequestKinds(t *testing.T) {
	for _, c := range []struct {
		r       api.Request
		payload string
	}{
		{api.Request{Kind: api.AskAppend, Entries: []string{"ab", "", "c"}}, bytesOf(1, 3, 2, 'a', 'b', 0, 1, 'c')},
		{api.Request{Kind: api.AskHead}, bytesOf(2)},
		{api.Request{Kind: api.AskRoot, Size: 5}, bytesOf(3, 5)},
		{api.Request{Kind: api.AskInclusion, A: 6, Size: 7}, bytesOf(4, 6, 7)},
		{api.Request{Kind: api.AskConsistency, A: 8, Size: 9}, bytesOf(5, 8, 9)},
		{api.Request{Kind: api.AskBatch, Size: 10, List: []int{0, 1, 4}}, bytesOf(6, 10, 3, 0, 0, 2)},
		{api.Request{Kind: api.AskChain, List: []int{7, 9}}, bytesOf(7, 2, 7, 1)},
		{api.Request{Kind: api.AskEntries, A: 1, B: 2, Size: 3}, bytesOf(8, 1, 2, 3)},
		{api.Request{Kind: api.AskOpen, A: 4, B: 5, Size: 6}, bytesOf(9, 4, 5, 6)},
		{api.Request{Kind: api.AskPull, A: 7}, bytesOf(10, 7)},
		{api.Request{Kind: api.AskClose, A: 8}, bytesOf(11, 8)},
		{api.Request{Kind: api.AskGroup, Asks: []api.Request{
			{Kind: api.AskRoot, Size: 5}, {Kind: api.AskInclusion, A: 6, Size: 7}, {Kind: api.AskConsistency, A: 8, Size: 9},
			{Kind: api.AskBatch, Size: 10, List: []int{0, 1, 4}}, {Kind: api.AskChain, List: []int{7, 9}},
		}}, bytesOf(12, 5, 3, 5, 4, 6, 7, 5, 8, 9, 6, 10, 3, 0, 0, 2, 7, 2, 7, 1)},
	} {
		want := framed(c.payload)
		if s, e := message.Encode(c.r); s != want || e != api.OK {
			t.Errorf("M1: %v: %x, %d, want %x", c.r, s, e, want)
		}
		if r, rest, e := message.Decode(want); !sameRequest(r, c.r) || rest != "" || e != api.OK {
			t.Errorf("M2: %x: %v, %x, %d", want, r, rest, e)
		}
	}
	for _, kind := range []int{math.MinInt, -244, -1, 0, 13, 256, 257, 268, math.MaxInt} {
		for _, r := range []api.Request{{Kind: kind}, {Kind: kind, A: -1}, {Kind: kind, List: []int{2, 1}}} {
			if s, e := message.Encode(r); s != "" || e != api.ErrMessageKind {
				t.Errorf("M1: %v: %x, %d", r, s, e)
			}
		}
	}
}

// numbers are such as may be sizes, and others, with the edges.
var numbers = []int{math.MinInt, -greatest, -1, 0, 1, 127, 128, 1<<20 - 1, greatest - 1, greatest, greatest + 1, 1 << 62, 1<<62 + 1, math.MaxInt}

// lists are such as may be indices or heads, and others.
func lists() [][]int {
	l := [][]int{
		nil, {}, {0}, {greatest}, {greatest + 1}, {-1}, {math.MinInt}, {math.MaxInt}, {0, 1}, {1, 0}, {1, 1}, {0, greatest}, {0, greatest + 1},
		{-1, 0}, {5, 4, 6}, {5, 6, 6}, {greatest - 1, greatest}, {greatest, greatest + 1}, {greatest + 1, 3}, {0, math.MaxInt}, {0, 1 << 62}, {math.MinInt, 4},
	}
	for _, many := range []int{2, 63, 64, 65, 66, 255, 256, 257, 300} {
		l = append(l, upTo(0, many), upTo(greatest+1-many, many), upTo(greatest+2-many, many), slices.Repeat([]int{3}, many))
	}
	return l
}

// texts are such as may be entries, and others.
func texts() [][]string {
	x := func(n int) string { return strings.Repeat("x", n) }
	l := [][]string{nil, {}, {""}, {"a"}, {x(1000)}, {x(1001)}, {x(4095)}, {x(4096)}, {x(4097)}, {"", x(4097)}, {x(4096), "", x(4096)}, {x(100000)}}
	for _, many := range []int{2, 31, 32, 33, 64, 4095, 4096, 4097} {
		l = append(l, make([]string, many), append(make([]string, many-1), x(1000)))
	}
	return append(l, slices.Repeat([]string{x(4096)}, 32), slices.Repeat([]string{x(4096)}, 33))
}

// Each field of each kind, at its edges and beyond.
func TestRequestFields(t *testing.T) {
	taken := 0
	is := func(r api.Request) {
		if isEncode(t, r) == api.OK {
			taken++
		}
	}
	for kind := 1; kind <= 12; kind++ {
		for _, n := range numbers {
			is(api.Request{Kind: kind, A: n})
			is(api.Request{Kind: kind, B: n})
			is(api.Request{Kind: kind, Size: n})
			is(api.Request{Kind: kind, A: n, B: 1, Size: 2})
			is(api.Request{Kind: kind, A: n, Size: n})
			is(api.Request{Kind: kind, Size: n, List: []int{1}})
		}
		for _, l := range lists() {
			is(api.Request{Kind: kind, List: l})
			is(api.Request{Kind: kind, Size: 9, List: l})
		}
		for _, l := range texts() {
			is(api.Request{Kind: kind, Entries: l})
		}
	}
	if taken < 200 {
		t.Errorf("only %d were taken", taken)
	}
}

// A field that a kind has not must be zero, a list without elements.
func TestRequestOtherFields(t *testing.T) {
	r := rand.New(rand.NewSource(1))
	others := []func(*api.Request){
		func(x *api.Request) { x.A++ }, func(x *api.Request) { x.B++ }, func(x *api.Request) { x.Size++ },
		func(x *api.Request) { x.A-- }, func(x *api.Request) { x.B-- }, func(x *api.Request) { x.Size-- },
		func(x *api.Request) { x.List = append(x.List, 0) }, func(x *api.Request) { x.List = append(x.List, greatest) },
		func(x *api.Request) { x.Entries = append(x.Entries, "") }, func(x *api.Request) { x.Asks = append(x.Asks, api.Request{}) },
		func(x *api.Request) { x.Asks = append(x.Asks, api.Request{Kind: api.AskRoot}) },
		func(x *api.Request) { x.Asks = append(x.Asks, api.Request{Kind: api.AskGroup, Asks: x.Asks}) },
	}
	for range 300 {
		for kind := 1; kind <= 12; kind++ {
			was := someRequest(r, kind, kind, 3)
			for _, change := range others {
				x := was
				x.List, x.Entries, x.Asks = slices.Clone(x.List), slices.Clone(x.Entries), slices.Clone(x.Asks)
				change(&x)
				isEncode(t, x)
				isEncode(t, api.Request{Kind: api.AskGroup, Asks: []api.Request{{Kind: api.AskRoot}, x}})
			}
			was.List, was.Entries, was.Asks = append([]int{}, was.List...), append([]string{}, was.Entries...), append([]api.Request{}, was.Asks...)
			if e := isEncode(t, was); e != api.OK {
				t.Errorf("M1: %v, with lists without elements: %d", was, e)
			}
		}
	}
}

func TestGroups(t *testing.T) {
	root := api.Request{Kind: api.AskRoot, Size: 300}
	for _, many := range []int{0, 1, 2, 63, 64, 65, 128, 1000} {
		if e := isEncode(t, api.Request{Kind: api.AskGroup, Asks: slices.Repeat([]api.Request{root}, many)}); (e == api.OK) != (many >= 1 && many <= 64) {
			t.Errorf("M1: a group of %d: %d", many, e)
		}
	}
	for _, kind := range []int{math.MinInt, -253, -1, 0, 1, 2, 3, 4, 5, 6, 7, 8, 9, 10, 11, 12, 13, 259, math.MaxInt} {
		for _, x := range []api.Request{{Kind: kind}, {Kind: kind, A: 1}, {Kind: kind, Size: 3}, {Kind: kind, List: []int{4}}, {Kind: kind, Entries: []string{"e"}}, {Kind: kind, Asks: []api.Request{root}}, {Kind: kind, A: 1, B: 2, Size: 3}, {Kind: kind, B: 2}, {Kind: kind, List: []int{4, 4}}, {Kind: kind, Size: -1}} {
			for _, l := range [][]api.Request{{x}, {x, root}, {root, x}, {root, root, x}} {
				if e := isEncode(t, api.Request{Kind: api.AskGroup, Asks: l}); e == api.ErrMessageKind {
					t.Errorf("M1: a group of %v: %d", l, e)
				}
			}
		}
	}
	// The longest of all: it is not too long.
	batch := api.Request{Kind: api.AskBatch, Size: greatest, List: upTo(greatest-255, 256)}
	if e := isEncode(t, api.Request{Kind: api.AskGroup, Asks: slices.Repeat([]api.Request{batch}, 64)}); e != api.OK {
		t.Errorf("M1: 64 batches: %d", e)
	}
}

// A request that is nested far down is refused as it is met.
func TestDeepGroups(t *testing.T) {
	x := api.Request{Kind: api.AskRoot}
	for range 1 << 16 {
		x = api.Request{Kind: api.AskGroup, Asks: []api.Request{x}}
	}
	if s, e := message.Encode(x); s != "" || e != api.ErrMessageField {
		t.Errorf("M1: groups within groups: %x, %d", s, e)
	}
	s := framed(strings.Repeat("\x0c\x01", 1<<19))
	if r, rest, e := message.Decode(s); !sameRequest(r, api.Request{}) || rest != "" || e != api.ErrMessageForm {
		t.Errorf("M2: groups within groups: %s, %d", short(r), e)
	}
}

// wrongNumbers are some that have no digits like that, or are above the greatest.
var wrongNumbers = []string{"\x80\x00", "\xff\x80\x00", "\x81\x80\x80\x80\x80\x20", "\x80\x80\x80\x80\x80\x80\x80\x80\x40", strings.Repeat("\xff", 9), "\x80\x80\x80\x80\x80\x80\x80\x80\x80\x01", "\x80", ""}

func TestRequestBytes(t *testing.T) {
	wrong := []string{
		"", "\x00", "\x0d", "\xff", "\x02\x02", "\x02\x00", "\x01\x00", "\x01\x01", "\x01\x01\x01", "\x01\x21" + strings.Repeat("\x00", 33),
		"\x06\x09\x00", "\x07\x00", "\x07\x41" + strings.Repeat("\x00", 65), "\x06\x09\x81\x02" + strings.Repeat("\x00", 257),
		"\x06\x09\x80\x02" + strings.Repeat("\x00", 255), "\x06\x09\x02\x80\x80\x80\x80\x80\x20\x00", "\x07\x02\x00\x80\x80\x80\x80\x80\x20",
		"\x0c\x00", "\x0c\x01", "\x0c\x41" + strings.Repeat("\x03\x01", 65), "\x0c\x02\x03\x01", "\x0c\x01\x03\x01\x03\x01",
		"\x01\x01\x81\x20" + strings.Repeat("x", 4097), "\x01\x01\x80\x20" + strings.Repeat("x", 4095),
	}
	for kind := range 16 {
		if kind < 3 || kind > 7 {
			wrong = append(wrong, "\x0c\x01"+bytesOf(byte(kind)), "\x0c\x01"+bytesOf(byte(kind), 1), "\x0c\x01"+bytesOf(byte(kind), 1, 0), "\x0c\x01"+bytesOf(byte(kind), 1, 1, 1), "\x0c\x01"+bytesOf(byte(kind), 1, 3, 1))
		}
	}
	for _, n := range wrongNumbers {
		for _, ahead := range []string{"\x01", "\x01\x01", "\x03", "\x04", "\x04\x01", "\x05", "\x05\x01", "\x06", "\x06\x01", "\x06\x01\x01", "\x07", "\x07\x01", "\x08", "\x08\x01", "\x08\x01\x01", "\x09", "\x09\x01", "\x09\x01\x01", "\x0a", "\x0b", "\x0c", "\x0c\x01\x03"} {
			wrong = append(wrong, ahead+n, ahead+n+"\x01", ahead+n+"\x01\x01")
		}
	}
	refused := 0
	for _, payload := range wrong {
		if e := isDecode(t, framed(payload)+"more"); e == api.ErrMessageForm {
			refused++
		}
	}
	// A number that is missing is made up for by the bytes behind it: these few are messages.
	if refused < len(wrong)-60 {
		t.Errorf("M2: only %d of %d are no requests", refused, len(wrong))
	}
	right := []string{"\x01\x01\x80\x20" + strings.Repeat("x", 4096), "\x01\x20" + strings.Repeat("\x00", 32), "\x03\x80\x80\x80\x80\x80\x20", "\x07\x02\xff\xff\xff\xff\xff\x1f\x00", "\x07\x40" + strings.Repeat("\x00", 64), "\x06\x09\x80\x02" + strings.Repeat("\x00", 256), "\x0c\x40" + strings.Repeat("\x03\x01", 64)}
	for _, payload := range right {
		if e := isDecode(t, framed(payload)+"more"); e != api.OK {
			t.Errorf("M2: %s: %d", short(payload), e)
		}
	}
}

// frameFaults are texts that do not begin with a frame, and how each is refused.
var frameFaults = []struct {
	s string
	e api.Errno
}{
	{"", api.ErrMessageShort},
	{"\x80", api.ErrMessageShort},
	{"\x01", api.ErrMessageShort},
	{"\x05\x02", api.ErrMessageShort},
	{"\x80\x80\x40\x02", api.ErrMessageShort}, // 1048576 bytes
	{"\x81\x80\x40\x02", api.ErrMessageLong},
	{"\x80\x80\x80\x80\x80\x80\x80\x80\x40", api.ErrMessageLong}, // the greatest number
	{"\x81\x80\x80\x80\x80\x80\x80\x80\x40", api.ErrMessageForm},
	{"\x80\x80\x80\x80\x80\x80\x80\x80\x80\x01", api.ErrMessageForm},
	{"\x81\x00\x02", api.ErrMessageForm},
	{"\x80\x00", api.ErrMessageForm},
	{"\x00", api.ErrMessageForm}, // without a kind
	{"\x00\x02", api.ErrMessageForm},
}

func TestRequestFrames(t *testing.T) {
	for _, c := range frameFaults {
		if r, rest, e := message.Decode(c.s); !sameRequest(r, api.Request{}) || rest != "" || e != c.e {
			t.Errorf("M2: %x: %v, %x, %d, want %d", c.s, r, rest, e, c.e)
		}
		isDecode(t, c.s)
	}
}

// All frames of one byte and two, and all of three or so of which the first ones are small.
func TestAllSmallRequests(t *testing.T) {
	read := 0
	is := func(payload ...byte) {
		if isDecode(t, framed(string(payload))) == api.OK {
			read++
		}
	}
	for a := range 256 {
		is(byte(a))
		for b := range 256 {
			is(byte(a), byte(b))
		}
	}
	for a := range byte(15) {
		for b := range byte(9) {
			for c := range byte(9) {
				for d := range 256 {
					is(a, b, c, byte(d))
					is(12, a, b, c, byte(d))
				}
			}
		}
	}
	if read < 5000 {
		t.Errorf("only %d were read", read)
	}
}

func TestSomeRequests(t *testing.T) {
	r := rand.New(rand.NewSource(2))
	for i := range 5000 {
		x := someRequest(r, 1, 12, []int{2, 5, 300}[i%3])
		if e := isEncode(t, x); e != api.OK {
			t.Fatalf("M1: %s: %d", short(x), e)
		}
	}
}

// spoilt is a text with a few bytes other than they were, away, or more.
func spoilt(r *rand.Rand, s string) string {
	for range 1 + r.Intn(2) {
		i := r.Intn(min(len(s), 60) + 1)
		switch b := bytesOf(byte([]int{0, 1, 2, 12, 32, 64, 127, 128, 255, r.Intn(256)}[r.Intn(10)])); r.Intn(3) {
		case 0:
			s = s[:i] + b + s[min(i+1, len(s)):]
		case 1:
			s = s[:i] + b + s[i:]
		case 2:
			s = s[:i] + s[min(i+1, len(s)):]
		}
	}
	return s
}

func TestSpoiltRequests(t *testing.T) {
	rows := 200000
	if testing.Short() {
		rows = 20000
	}
	r := rand.New(rand.NewSource(3))
	read := 0
	for i := range rows {
		s, _ := slowEncode(someRequest(r, 1, 12, 4))
		payload, _, _ := slowUnframe(s)
		if i%4 == 0 {
			s = spoilt(r, s)
		} else {
			s = framed(spoilt(r, payload)) + "more"
		}
		if isDecode(t, s) == api.OK {
			read++
		}
	}
	if read < rows/10 || read > rows*9/10 {
		t.Errorf("%d of %d were read", read, rows)
	}
}
