package codec_test

import (
	"encoding/binary"
	"math"
	"slices"
	"strings"
	"testing"

	"scrivener/api"
	"scrivener/codec"
)

const greatest = 1 << 62

// digits is a number as the standard library lays it down.
func digits(n int) string { return string(binary.AppendUvarint(nil, uint64(n))) }

// writing is a row of calls of a Writer, and what Done must tell behind it.
type writing struct {
	row  func(w *codec.Writer)
	want string
	e    api.Errno
}

func checkWritings(t *testing.T, promise string, all []writing) {
	t.Helper()
	for k, c := range all {
		w := codec.NewWriter()
		c.row(w)
		for range 2 {
			if s, e := w.Done(); s != c.want || e != c.e {
				t.Errorf("%s: line %d: %x, %d, want %x, %d", promise, k, s, e, c.want, c.e)
			}
		}
	}
}

func TestWriteByte(t *testing.T) {
	checkWritings(t, "C1", []writing{
		{func(w *codec.Writer) {}, "", api.OK},
		{func(w *codec.Writer) { w.Byte(-1) }, "", api.ErrCodecRange},
		{func(w *codec.Writer) { w.Byte(256) }, "", api.ErrCodecRange},
		{func(w *codec.Writer) { w.Byte(math.MinInt) }, "", api.ErrCodecRange},
		{func(w *codec.Writer) { w.Byte(math.MaxInt) }, "", api.ErrCodecRange},
	})
	w := codec.NewWriter()
	all := ""
	for n := range 256 {
		w.Byte(n)
		all += string([]byte{byte(n)})
		if s, e := w.Done(); s != all || e != api.OK {
			t.Fatalf("C1, C3: behind the byte %d: %x, %d", n, s, e)
		}
	}
}

func TestWriteNum(t *testing.T) {
	checkWritings(t, "C1", []writing{
		{func(w *codec.Writer) { w.Num(0) }, "\x00", api.OK},
		{func(w *codec.Writer) { w.Num(127) }, "\x7f", api.OK},
		{func(w *codec.Writer) { w.Num(128) }, "\x80\x01", api.OK},
		{func(w *codec.Writer) { w.Num(300) }, "\xac\x02", api.OK},
		{func(w *codec.Writer) { w.Num(greatest) }, "\x80\x80\x80\x80\x80\x80\x80\x80\x40", api.OK},
		{func(w *codec.Writer) { w.Num(greatest + 1) }, "", api.ErrCodecRange},
		{func(w *codec.Writer) { w.Num(math.MaxInt) }, "", api.ErrCodecRange},
		{func(w *codec.Writer) { w.Num(-1) }, "", api.ErrCodecRange},
		{func(w *codec.Writer) { w.Num(math.MinInt) }, "", api.ErrCodecRange},
	})
	for bit := range 63 {
		for _, n := range []int{1<<bit - 1, 1 << bit, 1<<bit + 1} {
			if n > greatest {
				continue
			}
			checkWritings(t, "C1", []writing{{func(w *codec.Writer) { w.Num(7); w.Num(n) }, "\x07" + digits(n), api.OK}})
		}
	}
}

func TestWriteRising(t *testing.T) {
	checkWritings(t, "C1", []writing{
		{func(w *codec.Writer) { w.Rising(nil) }, "\x00", api.OK},
		{func(w *codec.Writer) { w.Rising([]int{}) }, "\x00", api.OK},
		{func(w *codec.Writer) { w.Rising([]int{0}) }, "\x01\x00", api.OK},
		{func(w *codec.Writer) { w.Rising([]int{200}) }, "\x01\xc8\x01", api.OK},
		{func(w *codec.Writer) { w.Rising([]int{greatest}) }, "\x01" + digits(greatest), api.OK},
		{func(w *codec.Writer) { w.Rising([]int{3, 4, 9}) }, "\x03\x03\x00\x04", api.OK},
		{func(w *codec.Writer) { w.Rising([]int{0, 1, 2}) }, "\x03\x00\x00\x00", api.OK},
		{func(w *codec.Writer) { w.Rising([]int{0, 129, 130}) }, "\x03\x00\x80\x01\x00", api.OK},
		{func(w *codec.Writer) { w.Rising([]int{0, greatest}) }, "\x02\x00" + digits(greatest-1), api.OK},
		{func(w *codec.Writer) { w.Rising([]int{greatest - 1, greatest}) }, "\x02" + digits(greatest-1) + "\x00", api.OK},
		{func(w *codec.Writer) { w.Rising([]int{3, 3}) }, "", api.ErrCodecRange},
		{func(w *codec.Writer) { w.Rising([]int{0, 0}) }, "", api.ErrCodecRange},
		{func(w *codec.Writer) { w.Rising([]int{3, 9, 4}) }, "", api.ErrCodecRange},
		{func(w *codec.Writer) { w.Rising([]int{-1}) }, "", api.ErrCodecRange},
		{func(w *codec.Writer) { w.Rising([]int{-2, -1, 3}) }, "", api.ErrCodecRange},
		{func(w *codec.Writer) { w.Rising([]int{1, greatest + 1}) }, "", api.ErrCodecRange},
		{func(w *codec.Writer) { w.Rising([]int{math.MinInt, math.MaxInt}) }, "", api.ErrCodecRange},
	})
	long, want := []int{5}, digits(300)+"\x05"
	for i := 1; i < 300; i++ {
		long = append(long, 2*i+5)
		want += "\x01"
	}
	checkWritings(t, "C1", []writing{{func(w *codec.Writer) { w.Rising(long) }, want, api.OK}})
}

func TestWriteText(t *testing.T) {
	long := strings.Repeat("y", 128)
	checkWritings(t, "C2", []writing{
		{func(w *codec.Writer) { w.Text("", 0) }, "\x00", api.OK},
		{func(w *codec.Writer) { w.Text("hi", 2) }, "\x02hi", api.OK},
		{func(w *codec.Writer) { w.Text("hi", math.MaxInt) }, "\x02hi", api.OK},
		{func(w *codec.Writer) { w.Text("\x00\xff\x80", 3) }, "\x03\x00\xff\x80", api.OK},
		{func(w *codec.Writer) { w.Text("é", 2) }, "\x02\xc3\xa9", api.OK},
		{func(w *codec.Writer) { w.Text("é", 1) }, "", api.ErrCodecLong},
		{func(w *codec.Writer) { w.Text(long, 128) }, "\x80\x01" + long, api.OK},
		{func(w *codec.Writer) { w.Text(long, 127) }, "", api.ErrCodecLong},
		{func(w *codec.Writer) { w.Text("h", 0) }, "", api.ErrCodecLong},
		{func(w *codec.Writer) { w.Text("hello", 4) }, "", api.ErrCodecLong},
		{func(w *codec.Writer) { w.Text("", -1) }, "", api.ErrArg},
		{func(w *codec.Writer) { w.Text("hi", -1) }, "", api.ErrArg},
		{func(w *codec.Writer) { w.Text("hi", math.MinInt) }, "", api.ErrArg},
	})
}

func TestWriteTexts(t *testing.T) {
	checkWritings(t, "C2", []writing{
		{func(w *codec.Writer) { w.Texts(nil, 0, 0) }, "\x00", api.OK},
		{func(w *codec.Writer) { w.Texts([]string{""}, 1, 0) }, "\x01\x00", api.OK},
		{func(w *codec.Writer) { w.Texts([]string{"a", ""}, 2, 1) }, "\x02\x01a\x00", api.OK},
		{func(w *codec.Writer) { w.Texts([]string{"ab", "c", "ab"}, 9, 9) }, "\x03\x02ab\x01c\x02ab", api.OK},
		{func(w *codec.Writer) { w.Texts([]string{"a", ""}, 1, 1) }, "", api.ErrCodecLong},
		{func(w *codec.Writer) { w.Texts([]string{""}, 0, 1) }, "", api.ErrCodecLong},
		{func(w *codec.Writer) { w.Texts([]string{"a", "ab"}, 2, 1) }, "", api.ErrCodecLong},
		{func(w *codec.Writer) { w.Texts([]string{"a"}, 1, 0) }, "", api.ErrCodecLong},
		{func(w *codec.Writer) { w.Texts(nil, -1, 0) }, "", api.ErrArg},
		{func(w *codec.Writer) { w.Texts(nil, 0, -1) }, "", api.ErrArg},
		{func(w *codec.Writer) { w.Texts([]string{"ab"}, 0, -1) }, "", api.ErrArg},
		{func(w *codec.Writer) { w.Texts([]string{"ab"}, -1, 1) }, "", api.ErrArg},
	})
}

func TestWriteHashes(t *testing.T) {
	a, b := strings.Repeat("a", 32), strings.Repeat("\xff", 32)
	checkWritings(t, "C2", []writing{
		{func(w *codec.Writer) { w.Hashes(nil, 0) }, "\x00", api.OK},
		{func(w *codec.Writer) { w.Hashes([]string{a}, 1) }, "\x01" + a, api.OK},
		{func(w *codec.Writer) { w.Hashes([]string{a, b, a}, 5) }, "\x03" + a + b + a, api.OK},
		{func(w *codec.Writer) { w.Hashes([]string{a, b}, 1) }, "", api.ErrCodecLong},
		{func(w *codec.Writer) { w.Hashes([]string{a}, 0) }, "", api.ErrCodecLong},
		{func(w *codec.Writer) { w.Hashes([]string{a[1:]}, 1) }, "", api.ErrCodecRange},
		{func(w *codec.Writer) { w.Hashes([]string{a + "x"}, 1) }, "", api.ErrCodecRange},
		{func(w *codec.Writer) { w.Hashes([]string{a, ""}, 2) }, "", api.ErrCodecRange},
		{func(w *codec.Writer) { w.Hashes([]string{"", a}, 1) }, "", api.ErrCodecLong},
		{func(w *codec.Writer) { w.Hashes(nil, -1) }, "", api.ErrArg},
		{func(w *codec.Writer) { w.Hashes([]string{"h"}, -1) }, "", api.ErrArg},
	})
}

func TestWriteRaw(t *testing.T) {
	checkWritings(t, "C2", []writing{
		{func(w *codec.Writer) { w.Raw("") }, "", api.OK},
		{func(w *codec.Writer) { w.Raw("x"); w.Raw(""); w.Raw("\xff\x00") }, "x\xff\x00", api.OK},
	})
}

// Whatever comes behind what was wrong first, right or wrong, that is told.
func TestWrongFirst(t *testing.T) {
	first := []writing{
		{func(w *codec.Writer) { w.Byte(256) }, "", api.ErrCodecRange},
		{func(w *codec.Writer) { w.Num(-1) }, "", api.ErrCodecRange},
		{func(w *codec.Writer) { w.Rising([]int{1, 1}) }, "", api.ErrCodecRange},
		{func(w *codec.Writer) { w.Text("a", 0) }, "", api.ErrCodecLong},
		{func(w *codec.Writer) { w.Text("a", -1) }, "", api.ErrArg},
		{func(w *codec.Writer) { w.Texts([]string{"a"}, 0, 9) }, "", api.ErrCodecLong},
		{func(w *codec.Writer) { w.Texts(nil, -1, 9) }, "", api.ErrArg},
		{func(w *codec.Writer) { w.Hashes([]string{"a"}, 1) }, "", api.ErrCodecRange},
		{func(w *codec.Writer) { w.Hashes(nil, -1) }, "", api.ErrArg},
	}
	good := func(w *codec.Writer) {
		w.Byte(1)
		w.Num(1)
		w.Rising([]int{1})
		w.Text("a", 1)
		w.Texts([]string{"a"}, 1, 1)
		w.Hashes([]string{strings.Repeat("a", 32)}, 1)
		w.Raw("a")
	}
	for _, a := range first {
		checkWritings(t, "C3", []writing{
			{func(w *codec.Writer) { good(w); a.row(w); good(w) }, "", a.e},
			{func(w *codec.Writer) { a.row(w); w.Done(); good(w) }, "", a.e},
		})
		for _, b := range first {
			checkWritings(t, "C3", []writing{{func(w *codec.Writer) { a.row(w); b.row(w); good(w) }, "", a.e}})
		}
	}
}

func TestDoneAndOn(t *testing.T) {
	w, other := codec.NewWriter(), codec.NewWriter()
	w.Text("ab", 2)
	one, e := w.Done()
	w.Num(300)
	other.Raw("else")
	two, f := w.Done()
	if one != "\x02ab" || e != api.OK || two != "\x02ab\xac\x02" || f != api.OK {
		t.Errorf("C3: %x, %d, then %x, %d", one, e, two, f)
	}
	w.Byte(-1)
	if s, e := w.Done(); s != "" || e != api.ErrCodecRange {
		t.Errorf("C3: wrong behind Done: %x, %d", s, e)
	}
	if s, e := other.Done(); s != "else" || e != api.OK {
		t.Errorf("R2: another Writer: %x, %d", s, e)
	}
}

func TestListsStay(t *testing.T) {
	numbers := []int{3, 4, 9, -7, -8}
	texts := []string{"a", strings.Repeat("b", 32), "spare"}
	hashes := []string{strings.Repeat("a", 32), strings.Repeat("b", 32), "spare"}
	n, s, h := slices.Clone(numbers), slices.Clone(texts), slices.Clone(hashes)
	w := codec.NewWriter()
	w.Rising(n[:3])
	w.Texts(s[:2], 2, 32)
	w.Hashes(h[:2], 2)
	before, _ := w.Done()
	if !slices.Equal(n, numbers) || !slices.Equal(s, texts) || !slices.Equal(h, hashes) {
		t.Error("R2: a list that is handed in, or its spare room, is written into")
	}
	n[0], s[0], h[0] = 0, "z", strings.Repeat("z", 32)
	if after, e := w.Done(); after != before || e != api.OK {
		t.Error("R2: a list that is handed in is kept")
	}
}

// No call made these; still none may panic.
func TestNoWriter(t *testing.T) {
	for _, w := range []*codec.Writer{nil, {}} {
		w.Byte(256)
		w.Num(-1)
		w.Rising([]int{1})
		w.Text("a", 1)
		w.Texts([]string{"a"}, 1, 1)
		w.Hashes(nil, 1)
		w.Raw("a")
		if s, e := w.Done(); s != "" || w != nil && e != api.ErrCodecRange {
			t.Errorf("R1: %q, %d", s, e)
		}
	}
}
