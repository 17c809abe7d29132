package winternitz_test

import (
	"crypto/sha256"
	"encoding/hex"
	"math"
	"slices"
	"strconv"
	"strings"
	"testing"

	"scrivener/api"
	"scrivener/winternitz"
)

// The model takes the words as they stand, chain behind chain, over the library's SHA-256.

// sha is SHA(..): of texts, and of numbers, each of which stands as a byte.
func sha(parts ...any) string {
	var all []byte
	for _, p := range parts {
		switch x := p.(type) {
		case string:
			all = append(all, x...)
		case int:
			if x < 0 || x > 255 {
				panic("no byte: " + strconv.Itoa(x))
			}
			all = append(all, byte(x))
		}
	}
	h := sha256.Sum256(all)
	return string(h[:])
}

// slowDigits reads the digest's digits off its hexadecimal text, and tells the sum by such a text, too.
func slowDigits(text string) []int {
	signs := hex.EncodeToString([]byte(sha("m", text)))
	var digits []int
	sum := 0
	for _, s := range signs {
		d := strings.IndexRune("0123456789abcdef", s)
		digits = append(digits, d)
		sum += 15 - d
	}
	behind := strconv.FormatInt(int64(sum), 16)
	for _, s := range strings.Repeat("0", 3-len(behind)) + behind {
		digits = append(digits, strings.IndexRune("0123456789abcdef", s))
	}
	return digits
}

func slowSecret(seed string, index, c int) string { return sha("s", seed, index/256, index%256, c) }

// chainOf are the values of a chain from the first-th on up to its end, by the value that the first-th one is.
func chainOf(c, first int, value string) []string {
	values := []string{value}
	for i := first; i < 15; i++ {
		value = sha("c", c, i, value)
		values = append(values, value)
	}
	return values
}

func slowFault(seed string, index int) api.Errno {
	switch {
	case len(seed) != 32:
		return api.ErrKeySize
	case index < 0 || index > 65535:
		return api.ErrArg
	}
	return api.OK
}

func slowPublic(seed string, index int) (string, api.Errno) {
	if e := slowFault(seed, index); e != api.OK {
		return "", e
	}
	all := ""
	for c := range 67 {
		all += chainOf(c, 0, slowSecret(seed, index, c))[15]
	}
	return sha("p", all), api.OK
}

func slowSign(seed string, index int, text string) (string, api.Errno) {
	if e := slowFault(seed, index); e != api.OK {
		return "", e
	}
	all := ""
	for c, d := range slowDigits(text) {
		all += chainOf(c, 0, slowSecret(seed, index, c))[d]
	}
	return all, api.OK
}

func slowRecover(text, signature string) (string, api.Errno) {
	if len(signature) != 67*32 {
		return "", api.ErrKeySize
	}
	all := ""
	for c, d := range slowDigits(text) {
		values := chainOf(c, d, signature[32*c:32*(c+1)])
		all += values[len(values)-1]
	}
	return sha("p", all), api.OK
}

func isDigits(t *testing.T, text string) {
	t.Helper()
	if got, want := winternitz.Digits(text), slowDigits(text); !slices.Equal(got, want) {
		t.Errorf("W1: Digits of %d bytes: %v, want %v", len(text), got, want)
	}
}

func isPublic(t *testing.T, seed string, index int) string {
	t.Helper()
	want, wantE := slowPublic(seed, index)
	got, e := winternitz.Public(seed, index)
	if got != want || e != wantE {
		t.Errorf("W2: Public(%d bytes, %d): %x, %d, want %x, %d", len(seed), index, got, e, want, wantE)
	}
	return got
}

func isSign(t *testing.T, seed string, index int, text string) string {
	t.Helper()
	want, wantE := slowSign(seed, index, text)
	got, e := winternitz.Sign(seed, index, text)
	if got != want || e != wantE {
		t.Errorf("W2: Sign(%d bytes, %d, %d bytes): another signature, or %d, want %d", len(seed), index, len(text), e, wantE)
	}
	return got
}

func isRecover(t *testing.T, text, signature string) string {
	t.Helper()
	want, wantE := slowRecover(text, signature)
	got, e := winternitz.Recover(text, signature)
	if got != want || e != wantE {
		t.Errorf("W3: Recover(%d bytes, %d bytes): %x, %d, want %x, %d", len(text), len(signature), got, e, want, wantE)
	}
	return got
}

// counted is a seed whose bytes are 0 to 31.
func counted() string {
	b := make([]byte, 32)
	for i := range b {
		b[i] = byte(i)
	}
	return string(b)
}

// seeds are some that may be, also of bytes that are letters of the marks.
func seeds() []string {
	return []string{
		counted(), strings.Repeat("\x00", 32), strings.Repeat("\xff", 32), strings.Repeat("s", 32), strings.Repeat("c", 32),
		sha("seed"), strings.Repeat("é", 16),
	}
}

// wrongSeeds have not 32 bytes.
func wrongSeeds() []string {
	l := []string{strings.Repeat("é", 32), strings.Repeat("x", 2144), strings.Repeat("x", 1<<20)}
	for n := range 66 {
		if n != 32 {
			l = append(l, strings.Repeat("x", n))
		}
	}
	return l
}

// wrongIndices are below nought or behind the last.
func wrongIndices() []int {
	l := []int{math.MinInt, math.MinInt + 1, -65536, -65535, -256, -2, -1, math.MaxInt - 1, math.MaxInt, 65536, 65537, 65792, 131072}
	for i := 17; i < 63; i++ {
		l = append(l, 1<<i-1, 1<<i, 1<<i+1, -(1 << i))
	}
	return l
}

// texts are of many kinds and lengths.
func texts() []string {
	l := []string{"", "m", "a checkpoint", "\x00", "\xff\xfe", "Grüße", "mm", sha("x"), strings.Repeat("x", 2144), strings.Repeat("long ", 3000)}
	for n := 50; n < 70; n++ {
		l = append(l, strings.Repeat("y", n))
	}
	return l
}
