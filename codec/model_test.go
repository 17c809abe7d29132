package codec_test

import (
	"encoding/binary"
	"math"
	"math/big"
	"math/rand"
	"strings"

	"scrivener/api"
	"scrivener/codec"
)

// call is one of a Reader: b Byte, n Num, r Rising(many), t Text(most), s Texts(many, most), h Hashes(many), w Raw(most).
type call struct {
	kind       byte
	many, most int
}

var allCalls = []call{{'b', 0, 0}, {'n', 0, 0}, {'r', 9, 0}, {'t', 0, 9}, {'s', 9, 9}, {'h', 9, 0}, {'w', 0, 1}}

// read does the call; numbers are told as their digits, so that all answers are of one kind.
func (c call) read(r *codec.Reader) []string {
	switch c.kind {
	case 'b':
		return []string{digits(r.Byte())}
	case 'n':
		return []string{digits(r.Num())}
	case 'r':
		var l []string
		for _, n := range r.Rising(c.many) {
			l = append(l, digits(n))
		}
		return l
	case 't':
		return []string{r.Text(c.most)}
	case 's':
		return r.Texts(c.many, c.most)
	case 'h':
		return r.Hashes(c.many)
	}
	return []string{r.Raw(c.most)}
}

// nothing is what read tells where something is wrong.
func (c call) nothing() []string {
	switch c.kind {
	case 'b', 'n':
		return []string{"\x00"}
	case 't', 'w':
		return []string{""}
	}
	return nil
}

// write lays down what read told, by the call of the same name.
func (c call) write(w *codec.Writer, l []string) {
	switch c.kind {
	case 'b':
		w.Byte(number(l[0]))
	case 'n':
		w.Num(number(l[0]))
	case 'r':
		var numbers []int
		for _, s := range l {
			numbers = append(numbers, number(s))
		}
		w.Rising(numbers)
	case 't':
		w.Text(l[0], c.most)
	case 's':
		w.Texts(l, c.many, c.most)
	case 'h':
		w.Hashes(l, c.many)
	case 'w':
		w.Raw(l[0])
	}
}

func number(s string) int {
	n, _ := binary.Uvarint([]byte(s))
	return int(n)
}

// slowReader does what chapter 2 says of a Reader, as its words stand, with numbers of any length.
type slowReader struct {
	s     string
	taken int
	wrong api.Errno
	at    int // how many are gone within the call that is being done
}

func (r *slowReader) left() int { return len(r.s) - r.taken }

func (r *slowReader) done() (api.Errno, int) {
	if r.wrong == api.OK && r.left() > 0 {
		return api.ErrCodecMore, r.taken
	}
	return r.wrong, r.taken
}

func (r *slowReader) read(c call) (answer []string) {
	if r.wrong != api.OK {
		return c.nothing()
	}
	r.at = r.taken
	defer func() {
		if e, ok := recover().(api.Errno); ok {
			r.wrong, answer = e, c.nothing()
		} else {
			r.taken = r.at
		}
	}()
	if (strings.IndexByte("rsh", c.kind) >= 0 && c.many < 0) || (strings.IndexByte("tsw", c.kind) >= 0 && c.most < 0) {
		panic(api.ErrArg)
	}
	return r.inner(c)
}

func (r *slowReader) inner(c call) (l []string) {
	switch c.kind {
	case 'b':
		return []string{digits(int(r.bytes(1)[0]))}
	case 'n':
		return []string{digits(int(r.num().Int64()))}
	case 'w':
		return []string{r.bytes(c.most)}
	case 't':
		return []string{r.bytes(r.most(c.most))}
	}
	count := r.most(c.many)
	last := big.NewInt(-1)
	if c.kind == 'h' && count > (len(r.s)-r.at)/32 {
		panic(api.ErrCodecShort)
	}
	for range count {
		switch c.kind {
		case 'r':
			last.Add(last, r.num())
			last.Add(last, big.NewInt(1))
			if last.Cmp(big.NewInt(greatest)) > 0 {
				panic(api.ErrCodecRange)
			}
			l = append(l, digits(int(last.Int64())))
		case 's':
			l = append(l, r.bytes(r.most(c.most)))
		case 'h':
			l = append(l, r.bytes(32))
		}
	}
	return l
}

func (r *slowReader) bytes(n int) string {
	if n > len(r.s)-r.at {
		panic(api.ErrCodecShort)
	}
	r.at += n
	return r.s[r.at-n : r.at]
}

func (r *slowReader) most(most int) int {
	n := r.num()
	if n.Cmp(big.NewInt(int64(most))) > 0 {
		panic(api.ErrCodecLong)
	}
	return int(n.Int64())
}

func (r *slowReader) num() *big.Int {
	sum, base := new(big.Int), big.NewInt(1)
	for i := 1; ; i++ {
		b := r.bytes(1)[0]
		if i == 9 && b >= 128 {
			panic(api.ErrCodecRange)
		}
		sum.Add(sum, new(big.Int).Mul(base, big.NewInt(int64(b%128))))
		base.Mul(base, big.NewInt(128))
		if b < 128 && b == 0 && i > 1 {
			panic(api.ErrCodecForm)
		}
		if b < 128 && sum.Cmp(big.NewInt(greatest)) > 0 {
			panic(api.ErrCodecRange)
		}
		if b < 128 {
			return sum
		}
	}
}

// someBytes are mostly such as mean something to a Reader.
func someBytes(source *rand.Rand) string {
	pieces := []string{
		"\x00", "\x01", "\x02", "\x03", "\x7f", "\x80", "\xff", "\x80\x00", "\x80\x01", "\x40", "\x41",
		"\x02\x01a\x00", "\x02\x00\x01", "\x01" + strings.Repeat("h", 32), "\x03abc",
		digits(greatest), digits(greatest - 1), strings.Repeat("\x80", 8), strings.Repeat("\xff", 8),
	}
	s := ""
	for range source.Intn(7) {
		s += pieces[source.Intn(len(pieces))]
	}
	return s
}

func someCall(source *rand.Rand) call {
	limits := []int{-1, 0, 1, 2, 2, 3, 3, 127, 128, greatest, math.MaxInt}
	limit := func() int { return limits[source.Intn(len(limits))] }
	return call{"bnrtshw"[source.Intn(7)], limit(), limit()}
}
