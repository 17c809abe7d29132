package codec_test

import (
	"math"
	"math/rand"
	"slices"
	"strings"
	"testing"

	"scrivener/api"
	"scrivener/codec"
)

// reading is some bytes, a call of a Reader of them, and what must come of it.
type reading struct {
	s    string
	call call
	want []string // lists and texts; numbers as digits
	left int      // if nothing is wrong
	e    api.Errno
}

func checkReadings(t *testing.T, promise string, all []reading) {
	t.Helper()
	for k, c := range all {
		// A byte ahead, so that the place of a fault is not 0 anyhow.
		r := codec.NewReader("A" + c.s)
		r.Byte()
		got := c.call.read(r)
		left, taken, e := c.left, len(c.s)+1-c.left, c.e
		if e != api.OK {
			left, taken = len(c.s), 1
		} else if left > 0 {
			e = api.ErrCodecMore
		}
		if !slices.Equal(got, c.want) {
			t.Errorf("%s: line %d: %q, want %q", promise, k, got, c.want)
		}
		for range 2 {
			if f, n := r.Done(); f != e || n != taken || r.Left() != left {
				t.Errorf("%s, C7: line %d: %d, %d, left %d, want %d, %d, left %d", promise, k, f, n, r.Left(), e, taken, left)
			}
		}
	}
}

func TestReadByte(t *testing.T) {
	b := call{kind: 'b'}
	checkReadings(t, "C4", []reading{
		{"", b, []string{"\x00"}, 0, api.ErrCodecShort},
		{"\x00", b, []string{"\x00"}, 0, api.OK},
		{"\xff", b, []string{digits(255)}, 0, api.OK},
		{"\x80z", b, []string{digits(128)}, 1, api.OK},
	})
}

func TestReadNum(t *testing.T) {
	n := call{kind: 'n'}
	zero := []string{"\x00"}
	eight := strings.Repeat("\x80", 8)
	checkReadings(t, "C4", []reading{
		{"\x00", n, zero, 0, api.OK},
		{"\x00x", n, zero, 1, api.OK},
		{"\x7f\x80", n, []string{"\x7f"}, 1, api.OK},
		{"\x80\x01", n, []string{digits(128)}, 0, api.OK},
		{"\xac\x02\x00", n, []string{digits(300)}, 1, api.OK},
		{eight + "\x40", n, []string{digits(greatest)}, 0, api.OK},
		{strings.Repeat("\xff", 8) + "\x3f", n, []string{digits(greatest - 1)}, 0, api.OK},
		{"", n, zero, 0, api.ErrCodecShort},
		{"\x80", n, zero, 0, api.ErrCodecShort},
		{eight, n, zero, 0, api.ErrCodecShort},
		{"\x80\x00", n, zero, 0, api.ErrCodecForm},
		{"\xff\x00", n, zero, 0, api.ErrCodecForm},
		{eight + "\x00", n, zero, 0, api.ErrCodecForm},
		{strings.Repeat("\xff", 8) + "\x00", n, zero, 0, api.ErrCodecForm},
		{"\x81" + eight[1:] + "\x40", n, zero, 0, api.ErrCodecRange},
		{eight + "\x41", n, zero, 0, api.ErrCodecRange},
		{strings.Repeat("\xff", 8) + "\x7f", n, zero, 0, api.ErrCodecRange},
		{eight + "\x80", n, zero, 0, api.ErrCodecRange},
		{eight + "\x80\x00", n, zero, 0, api.ErrCodecRange},
		{eight + "\xff\x01", n, zero, 0, api.ErrCodecRange},
		{strings.Repeat("\x80", 40), n, zero, 0, api.ErrCodecRange},
	})
}

func TestReadRising(t *testing.T) {
	rising := func(many int) call { return call{kind: 'r', many: many} }
	top := digits(greatest)
	checkReadings(t, "C5", []reading{
		{"\x00", rising(0), nil, 0, api.OK},
		{"\x00x", rising(9), nil, 1, api.OK},
		{"\x01\x00", rising(1), []string{"\x00"}, 0, api.OK},
		{"\x03\x03\x00\x04z", rising(3), []string{"\x03", "\x04", "\x09"}, 1, api.OK},
		{"\x03\x03\x00\x04", rising(math.MaxInt), []string{"\x03", "\x04", "\x09"}, 0, api.OK},
		{"\x01" + top, rising(1), []string{top}, 0, api.OK},
		{"\x02\x00" + digits(greatest-1), rising(2), []string{"\x00", top}, 0, api.OK},
		{"\x02\x00" + top, rising(2), nil, 0, api.ErrCodecRange},
		{"\x02" + digits(greatest-1) + "\x00", rising(2), []string{digits(greatest - 1), top}, 0, api.OK},
		{"\x02" + top + "\x00", rising(2), nil, 0, api.ErrCodecRange},
		{"\x02" + top + top, rising(2), nil, 0, api.ErrCodecRange},
		{"\x03" + top + "\x00", rising(3), nil, 0, api.ErrCodecRange},
		{"", rising(-1), nil, 0, api.ErrArg},
		{"\x00", rising(math.MinInt), nil, 0, api.ErrArg},
		{"", rising(0), nil, 0, api.ErrCodecShort},
		{"\x81\x00", rising(0), nil, 0, api.ErrCodecForm},
		{digits(greatest)[:8] + "\x41", rising(0), nil, 0, api.ErrCodecRange},
		{"\x01\x00", rising(0), nil, 0, api.ErrCodecLong},
		{"\x02", rising(1), nil, 0, api.ErrCodecLong},
		{"\x02\x80\x00", rising(1), nil, 0, api.ErrCodecLong},
		{"\x02\x03", rising(2), nil, 0, api.ErrCodecShort},
		{"\x02\x03\x80\x00", rising(2), nil, 0, api.ErrCodecForm},
		{"\x02\x80\x00", rising(2), nil, 0, api.ErrCodecForm},
		{top + "\x01\x01", rising(math.MaxInt), nil, 0, api.ErrCodecShort},
	})
}

func TestReadText(t *testing.T) {
	text := func(most int) call { return call{kind: 't', most: most} }
	none := []string{""}
	checkReadings(t, "C6", []reading{
		{"\x00", text(0), none, 0, api.OK},
		{"\x02hi", text(2), []string{"hi"}, 0, api.OK},
		{"\x02hi!", text(math.MaxInt), []string{"hi"}, 1, api.OK},
		{"\x80\x01" + strings.Repeat("x", 129), text(128), []string{strings.Repeat("x", 128)}, 1, api.OK},
		{"\x05hello", text(-1), none, 0, api.ErrArg},
		{"", text(-1), none, 0, api.ErrArg},
		{"", text(5), none, 0, api.ErrCodecShort},
		{"\x85\x00hello", text(5), none, 0, api.ErrCodecForm},
		{strings.Repeat("\x80", 9) + "hello", text(5), none, 0, api.ErrCodecRange},
		{"\x05hello", text(4), none, 0, api.ErrCodecLong},
		{"\x05abc", text(4), none, 0, api.ErrCodecLong},
		{"\x05hell", text(5), none, 0, api.ErrCodecShort},
		{digits(greatest) + "hell", text(math.MaxInt), none, 0, api.ErrCodecShort},
	})
}

func TestReadTexts(t *testing.T) {
	texts := func(many, most int) call { return call{kind: 's', many: many, most: most} }
	checkReadings(t, "C6", []reading{
		{"\x00", texts(0, 0), nil, 0, api.OK},
		{"\x00x", texts(3, 3), nil, 1, api.OK},
		{"\x02\x01a\x00z", texts(2, 1), []string{"a", ""}, 1, api.OK},
		{"\x02\x00\x00", texts(2, 0), []string{"", ""}, 0, api.OK},
		{"", texts(-1, 0), nil, 0, api.ErrArg},
		{"", texts(0, -1), nil, 0, api.ErrArg},
		{"\x00", texts(0, -1), nil, 0, api.ErrArg},
		{"\x02", texts(1, -1), nil, 0, api.ErrArg},
		{"", texts(0, 0), nil, 0, api.ErrCodecShort},
		{"\x82\x00", texts(0, 0), nil, 0, api.ErrCodecForm},
		{"\x02\x00\x00", texts(1, 9), nil, 0, api.ErrCodecLong},
		{"\x02\x82\x00", texts(1, 9), nil, 0, api.ErrCodecLong},
		{"\x02\x01a", texts(2, 1), nil, 0, api.ErrCodecShort},
		{"\x02\x01a\x01", texts(2, 1), nil, 0, api.ErrCodecShort},
		{"\x02\x01a\x02bc", texts(2, 1), nil, 0, api.ErrCodecLong},
		{"\x02\x02a", texts(2, 1), nil, 0, api.ErrCodecLong},
		{"\x02\x01a\x80\x00", texts(2, 1), nil, 0, api.ErrCodecForm},
		{"\x02\x02ab\x80\x00", texts(2, 1), nil, 0, api.ErrCodecLong},
		{digits(greatest) + "\x01a\x00", texts(math.MaxInt, math.MaxInt), nil, 0, api.ErrCodecShort},
	})
}

func TestReadHashes(t *testing.T) {
	hashes := func(many int) call { return call{kind: 'h', many: many} }
	a, b := strings.Repeat("a", 32), strings.Repeat("\x80", 32)
	checkReadings(t, "C6", []reading{
		{"\x00", hashes(0), nil, 0, api.OK},
		{"\x01" + a, hashes(1), []string{a}, 0, api.OK},
		{"\x02" + a + b + "zz", hashes(7), []string{a, b}, 2, api.OK},
		{"", hashes(-1), nil, 0, api.ErrArg},
		{"\x01" + a, hashes(-1), nil, 0, api.ErrArg},
		{"", hashes(1), nil, 0, api.ErrCodecShort},
		{"\x81\x00" + a, hashes(1), nil, 0, api.ErrCodecForm},
		{"\x02" + a + b, hashes(1), nil, 0, api.ErrCodecLong},
		{"\x02", hashes(1), nil, 0, api.ErrCodecLong},
		{"\x01" + a[1:], hashes(1), nil, 0, api.ErrCodecShort},
		{"\x02" + a + b[1:], hashes(2), nil, 0, api.ErrCodecShort},
		{digits(greatest) + a, hashes(math.MaxInt), nil, 0, api.ErrCodecShort},
		{digits(1<<59) + a, hashes(math.MaxInt), nil, 0, api.ErrCodecShort},
		{digits(1<<58) + a, hashes(math.MaxInt), nil, 0, api.ErrCodecShort},
	})
}

func TestReadRaw(t *testing.T) {
	raw := func(n int) call { return call{kind: 'w', most: n} }
	none := []string{""}
	checkReadings(t, "C6", []reading{
		{"", raw(0), none, 0, api.OK},
		{"abc", raw(0), none, 3, api.OK},
		{"abc", raw(2), []string{"ab"}, 1, api.OK},
		{"abc", raw(3), []string{"abc"}, 0, api.OK},
		{"abc", raw(4), none, 0, api.ErrCodecShort},
		{"abc", raw(math.MaxInt), none, 0, api.ErrCodecShort},
		{"abc", raw(-1), none, 0, api.ErrArg},
		{"", raw(math.MinInt), none, 0, api.ErrArg},
	})
}

func TestNothingRead(t *testing.T) {
	for _, s := range []string{"", "a", "abc"} {
		r := codec.NewReader(s)
		want := api.ErrCodecMore
		if s == "" {
			want = api.OK
		}
		if e, n := r.Done(); e != want || n != 0 || r.Left() != len(s) {
			t.Errorf("C7: of %q: %d, %d, left %d", s, e, n, r.Left())
		}
	}
}

// Done with bytes left is no fault: one may go on.
func TestReadOn(t *testing.T) {
	r := codec.NewReader("ab")
	r.Byte()
	if e, n := r.Done(); e != api.ErrCodecMore || n != 1 || r.Byte() != 'b' {
		t.Errorf("C7: %d, %d", e, n)
	}
	if e, n := r.Done(); e != api.OK || n != 2 {
		t.Errorf("C7: %d, %d", e, n)
	}
}

// Behind a fault no call takes any bytes, though they would be right, and the first fault is told.
func TestBehindFault(t *testing.T) {
	for _, c := range allCalls {
		r := codec.NewReader("xyz" + "\x00" + strings.Repeat("\x00", 40))
		r.Raw(3)
		r.Text(-1)
		for _, d := range []call{c, {kind: 'w', most: 99}} {
			if got := d.read(r); !slices.Equal(got, d.nothing()) {
				t.Errorf("%c behind a fault: %q", d.kind, got)
			}
		}
		if e, n := r.Done(); e != api.ErrArg || n != 3 || r.Left() != 41 {
			t.Errorf("C7: behind a fault: %d, %d, left %d", e, n, r.Left())
		}
	}
}

func TestNewLists(t *testing.T) {
	s := "\x02\x01\x01" + "\x02\x01a\x01b" + "\x02" + strings.Repeat("a", 64)
	one, two := codec.NewReader(s), codec.NewReader(s)
	n, m := one.Rising(2), two.Rising(2)
	for i := range n[:cap(n)] {
		n[:cap(n)][i] = -5
	}
	x, y := one.Texts(2, 1), two.Texts(2, 1)
	g, h := one.Hashes(2), two.Hashes(2)
	for _, l := range [][]string{x, g} {
		for i := range l[:cap(l)] {
			l[:cap(l)][i] = "z"
		}
	}
	if !slices.Equal(m, []int{1, 3}) || !slices.Equal(y, []string{"a", "b"}) || !slices.Equal(h, []string{strings.Repeat("a", 32), strings.Repeat("a", 32)}) {
		t.Error("R2: a list that came out shares memory with another")
	}
	if e, taken := one.Done(); e != api.OK || taken != len(s) {
		t.Errorf("R2: a Reader hangs on a list that it gave out: %d, %d", e, taken)
	}
}

// No call made these; still none may panic.
func TestNoReader(t *testing.T) {
	for _, r := range []*codec.Reader{nil, {}} {
		for _, c := range allCalls {
			if got := c.read(r); !slices.Equal(got, c.nothing()) {
				t.Errorf("R1: %c of no Reader: %q", c.kind, got)
			}
		}
		if e, n := r.Done(); n != 0 || r.Left() != 0 || r == nil && e != api.OK {
			t.Errorf("R1: %d, %d", e, n)
		}
	}
}

// Rows of calls on any bytes go as the slow reader of these tests says.
func TestReadAny(t *testing.T) {
	rows := 200000
	if testing.Short() {
		rows = 20000
	}
	source := rand.New(rand.NewSource(2))
	for range rows {
		s := someBytes(source)
		r, slow := codec.NewReader(s), &slowReader{s: s}
		var row []call
		for range 1 + source.Intn(5) {
			c := someCall(source)
			row = append(row, c)
			got, want := c.read(r), slow.read(c)
			e, n := r.Done()
			f, m := slow.done()
			if !slices.Equal(got, want) || e != f || n != m || r.Left() != slow.left() {
				t.Fatalf("C4 to C7: of %x by %v: %q, %d, %d, left %d, want %q, %d, %d, left %d", s, row, got, e, n, r.Left(), want, f, m, slow.left())
			}
		}
	}
}
