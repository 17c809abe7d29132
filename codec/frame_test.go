package codec_test

import (
	"math/rand"
	"slices"
	"strings"
	"testing"

	"scrivener/api"
	"scrivener/codec"
)

func TestFrame(t *testing.T) {
	long := strings.Repeat("x", api.MaxFrame)
	for _, s := range []string{"", "\x00", "ab", strings.Repeat("\xff", 127), strings.Repeat("y", 128), long[1:], long} {
		f, e := codec.Frame(s)
		if f != digits(len(s))+s || e != api.OK {
			t.Errorf("C8: a frame of %d bytes: %d bytes, %d", len(s), len(f), e)
		}
		for _, more := range []string{"", "x", "\x80", f} {
			if p, rest, g := codec.Unframe(f + more); p != s || rest != more || g != api.OK {
				t.Errorf("C8, C9: a frame of %d bytes and %d more: %d and %d bytes, %d", len(s), len(more), len(p), len(rest), g)
			}
		}
	}
	for _, more := range []string{"x", long} {
		if f, e := codec.Frame(long + more); f != "" || e != api.ErrCodecLong {
			t.Errorf("C8: %d bytes, %d", len(f), e)
		}
	}
}

func TestUnframeWrong(t *testing.T) {
	for _, c := range []struct {
		s string
		e api.Errno
	}{
		{"", api.ErrCodecShort},
		{"\x80", api.ErrCodecShort},
		{"\x02a", api.ErrCodecShort},
		{"\x80\x80\x40", api.ErrCodecShort}, // 1048576
		{"\x81\x80\x40", api.ErrCodecLong},  // 1048577
		{digits(greatest) + "a", api.ErrCodecLong},
		{"\x81\x00a", api.ErrCodecForm},
		{"\x81\x80\xc0\x00", api.ErrCodecForm},
		{strings.Repeat("\x80", 8) + "\x41", api.ErrCodecRange},
		{strings.Repeat("\x80", 9) + "\x01", api.ErrCodecRange},
	} {
		if p, rest, e := codec.Unframe(c.s); p != "" || rest != "" || e != c.e {
			t.Errorf("C8: %x: %q, %q, %d, want %d", c.s, p, rest, e, c.e)
		}
	}
}

func TestFrameBeginnings(t *testing.T) {
	for _, n := range []int{0, 1, 2, 127, 128, 129, 16383, 16384} {
		f, _ := codec.Frame(strings.Repeat("\x80", n))
		for k := range len(f) {
			if p, rest, e := codec.Unframe(f[:k]); p != "" || rest != "" || e != api.ErrCodecShort {
				t.Fatalf("C9: %d of the %d bytes of a frame: %d and %d bytes, %d", k, len(f), len(p), len(rest), e)
			}
		}
	}
}

func TestFramesInRow(t *testing.T) {
	source := rand.New(rand.NewSource(9))
	var payloads []string
	all := ""
	for range 200 {
		s := strings.Repeat(string([]byte{byte(source.Intn(256))}), source.Intn(300))
		f, _ := codec.Frame(s)
		payloads, all = append(payloads, s), all+f
	}
	var got []string
	for all != "" {
		p, rest, e := codec.Unframe(all)
		if e != api.OK {
			t.Fatalf("C9: behind %d frames: %d", len(got), e)
		}
		got, all = append(got, p), rest
	}
	if !slices.Equal(got, payloads) {
		t.Error("C9: frames one behind the other are not told as they were laid down")
	}
}

// The examples of chapter 2.
func TestExample(t *testing.T) {
	w := codec.NewWriter()
	w.Byte(255)
	w.Num(300)
	w.Rising([]int{3, 4, 9})
	w.Text("hi", 4)
	w.Texts([]string{"a", ""}, 2, 1)
	w.Raw("x")
	s, e := w.Done()
	if s != string([]byte{255, 172, 2, 3, 3, 0, 4, 2, 104, 105, 2, 1, 97, 0, 120}) || e != api.OK {
		t.Errorf("C1 to C3: %x, %d", s, e)
	}
	r := codec.NewReader(s)
	if r.Byte() != 255 || r.Num() != 300 || !slices.Equal(r.Rising(3), []int{3, 4, 9}) || r.Text(4) != "hi" ||
		!slices.Equal(r.Texts(2, 1), []string{"a", ""}) || r.Raw(1) != "x" {
		t.Error("C9: not what was laid down")
	}
	if e, n := r.Done(); e != api.OK || n != 15 {
		t.Errorf("C7: %d, %d", e, n)
	}
}

// What was taken off any bytes, laid down again, is these bytes.
func TestLaidDownAgain(t *testing.T) {
	rows := 200000
	if testing.Short() {
		rows = 20000
	}
	source := rand.New(rand.NewSource(4))
	whole := 0
	for range rows {
		s := someBytes(source)
		r, w := codec.NewReader(s), codec.NewWriter()
		before := 0
		for range 1 + source.Intn(5) {
			c := someCall(source)
			l := c.read(r)
			if e, n := r.Done(); e == api.OK || e == api.ErrCodecMore {
				c.write(w, l)
				before = n
			}
		}
		if got, e := w.Done(); got != s[:before] || e != api.OK {
			t.Fatalf("C9: %x, %d, was taken off %x", got, e, s)
		}
		if before > 0 {
			whole++
		}
	}
	if whole < rows/4 {
		t.Errorf("only %d of %d rows took anything", whole, rows)
	}
}

// What a Writer laid down is taken by the same calls, and nothing is left.
func TestTakenAgain(t *testing.T) {
	source := rand.New(rand.NewSource(5))
	for range 20000 {
		w := codec.NewWriter()
		var row []call
		var want [][]string
		for range source.Intn(8) {
			c, l := someAnswer(source)
			c.write(w, l)
			row, want = append(row, c), append(want, l)
		}
		s, e := w.Done()
		r := codec.NewReader(s)
		for i, c := range row {
			if got := c.read(r); !slices.Equal(got, want[i]) {
				t.Fatalf("C9: %v: %q, want %q", c, got, want[i])
			}
		}
		if f, n := r.Done(); e != api.OK || f != api.OK || n != len(s) {
			t.Fatalf("C9: %d, then %d, %d", e, f, n)
		}
	}
}

// someAnswer is a call, and what it may tell, just at its limits.
func someAnswer(source *rand.Rand) (call, []string) {
	text := func(n int) string {
		b := make([]byte, n)
		source.Read(b)
		return string(b)
	}
	many := source.Intn(4)
	c := call{"bnrtshw"[source.Intn(7)], many, source.Intn(140)}
	var l []string
	switch c.kind {
	case 'b':
		return c, []string{digits(source.Intn(256))}
	case 'n':
		return c, []string{digits(min(source.Int()>>source.Intn(63), greatest))}
	case 't', 'w':
		return c, []string{text(c.most)}
	case 'r':
		for i := range many {
			l = append(l, digits(greatest>>(2*(many-i-1)+source.Intn(2))))
		}
	case 's':
		for range many {
			l = append(l, text(c.most-source.Intn(c.most+1)))
		}
	case 'h':
		for range many {
			l = append(l, text(32))
		}
	}
	return c, l
}
