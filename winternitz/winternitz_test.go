package winternitz_test

import (
	"encoding/hex"
	"math/rand"
	"slices"
	"strconv"
	"strings"
	"testing"

	"scrivener/api"
	"scrivener/winternitz"
)

func TestSize(t *testing.T) {
	if n := winternitz.Size(); n != 2144 {
		t.Errorf("W1: Size: %d", n)
	}
}

// hexed are digits as hexadecimal signs.
func hexed(digits []int) string {
	out := ""
	for _, d := range digits {
		out += strconv.FormatInt(int64(d), 16)
	}
	return out
}

func TestDigitsThatAreWrittenOut(t *testing.T) {
	for text, want := range map[string]string{
		"":             "62c66a7a5dd70c3146618063c344e531e6d4b59e379808443ce962b3abd63c5a" + "206",
		"a checkpoint": "2e44d5de0ac26dee61da6eaba944bf6502bc2fc0ce44e35fa9cf0ef2266de2c8" + "1a4",
	} {
		if got := hexed(winternitz.Digits(text)); got != want {
			t.Errorf("W1: Digits(%q): %s", text, got)
		}
	}
}

func TestDigits(t *testing.T) {
	for _, text := range texts() {
		isDigits(t, text)
	}
	highest := map[int]int{}
	for i := range 2000 {
		text := "text " + strconv.Itoa(i)
		isDigits(t, text)
		highest[winternitz.Digits(text)[64]]++
	}
	if highest[1] == 0 || highest[2] == 0 {
		t.Errorf("the texts have sums of one kind alone: %v", highest)
	}
}

// What was worked out elsewhere, of the seed whose bytes are 0 to 31: the public key, and the digest of a signature.
func TestKeysThatAreWrittenOut(t *testing.T) {
	for _, c := range []struct {
		index          int
		public, signed string
	}{
		{0, "b8510eccb559092a0dc63a483de210ab37addbc131214d84d00a3d3ae82c809d", "47ffd67a07554f03b502f5203c90614dbd406a51260edbb70efda2bf139c9076"},
		{1, "aa1c2a5e7a84d591f72cbb82cbb7dbb7b33f6ae1652fb7a1f3bdf44f0d456b95", "9441484dd52daf2136ff75b89dbe9344ffb89708dd23856b3456afc63a2442fe"},
		{255, "b1cb273fbe488a433bc038191acc777fcde164772fd3c01d4005327d864f7f3b", "99120d76d501686eba92bf15ceff58bb43c51f7f8c1873ed8ccdab53c6aa6e3d"},
		{256, "40a626166e03078d16c7fbde3f0736fb9e280f3a9927c65dcbaba2b0b5ef4668", "4c8deab2ca4caf29100ed56215a8f53e9d920beca4833254729c32d57b4497a6"},
		{258, "b401bbf72e5645f43c65811a105d1754c3d8ee931ec0e6ed32cc4ba993200b0a", "f7dc535606440626c8b3835a438c4afb01be62fb865517032fe9da6d0002fa95"},
		{65535, "462fe50548d72404519769cd54effd6c1b0e83e83a505912efd2c5ebd006465c", "8626476cc409fde6e24f23c16c36a0987103ebde5403ac91c3289117bc1e4647"},
	} {
		p, e := winternitz.Public(counted(), c.index)
		if hex.EncodeToString([]byte(p)) != c.public || e != api.OK {
			t.Errorf("W2: Public(%d): %x, %d", c.index, p, e)
		}
		s, e := winternitz.Sign(counted(), c.index, "a checkpoint")
		if hex.EncodeToString([]byte(sha(s))) != c.signed || len(s) != 2144 || e != api.OK {
			t.Errorf("W2: Sign(%d): %d bytes, %d", c.index, len(s), e)
		}
	}
}

// What is no signature of anybody leads to a key all the same.
func TestRecoveredThatAreWrittenOut(t *testing.T) {
	rising := make([]byte, 2144)
	for i := range rising {
		rising[i] = byte(i)
	}
	for _, c := range []struct{ text, signature, want string }{
		{"x", string(make([]byte, 2144)), "6a6bc7c5ae5f1697334cb594a491584cda09cc475337dfd02c98392878dfe7d7"},
		{"", string(rising), "bdb458be5f9bf1857ace84a15fcd9dada4efbddf25b84c51b66b39bbaa1e6a76"},
	} {
		if p, e := winternitz.Recover(c.text, c.signature); hex.EncodeToString([]byte(p)) != c.want || e != api.OK {
			t.Errorf("W3: Recover(%q): %x, %d", c.text, p, e)
		}
	}
}

func TestKeys(t *testing.T) {
	for _, seed := range seeds() {
		for _, index := range []int{0, 1, 66, 67, 255, 256, 257, 511, 512, 32767, 32768, 65279, 65280, 65534, 65535} {
			isPublic(t, seed, index)
			isSign(t, seed, index, "a checkpoint")
		}
	}
	for _, text := range texts() {
		isRecover(t, text, isSign(t, counted(), 300, text))
	}
}

func TestKeysOfAnyNumbers(t *testing.T) {
	r := rand.New(rand.NewSource(3))
	for range 150 {
		seed, text := make([]byte, 32), make([]byte, r.Intn(200))
		r.Read(seed)
		r.Read(text)
		index := r.Intn(65536)
		isPublic(t, string(seed), index)
		isSign(t, string(seed), index, string(text))
	}
}

func TestRecoverOfAnyBytes(t *testing.T) {
	r := rand.New(rand.NewSource(4))
	for i := range 150 {
		signature := make([]byte, 2144)
		r.Read(signature)
		isRecover(t, "text "+strconv.Itoa(i), string(signature))
	}
	for _, b := range []string{"\x00", "\xff", "c", "p"} {
		for _, text := range texts() {
			isRecover(t, text, strings.Repeat(b, 2144))
		}
	}
}

// Chains are not alike, nor are their steps: of no two chains, indices or seeds a value is the same.
func TestValuesAreUnlike(t *testing.T) {
	seen := map[string]int{}
	count := 0
	for _, seed := range seeds() {
		for _, index := range []int{0, 1, 256, 257} {
			s := isSign(t, seed, index, "a checkpoint")
			for c := range 67 {
				seen[s[32*c:32*(c+1)]]++
				count++
			}
			seen[isPublic(t, seed, index)]++
			count++
		}
	}
	if len(seen) != count {
		t.Errorf("W2: %d values, of which %d are unlike", count, len(seen))
	}
}

func TestWrongSeedsAndIndices(t *testing.T) {
	indices := append(wrongIndices(), 0, 1, 65535)
	for _, seed := range wrongSeeds() {
		for _, index := range indices {
			refused(t, seed, index, api.ErrKeySize)
		}
	}
	for _, seed := range seeds() {
		for _, index := range wrongIndices() {
			refused(t, seed, index, api.ErrArg)
		}
	}
}

// refused holds both calls that ask a seed and an index to an error.
func refused(t *testing.T, seed string, index int, want api.Errno) {
	t.Helper()
	if p, e := winternitz.Public(seed, index); p != "" || e != want {
		t.Errorf("W2: Public(%d bytes, %d): %x, %d, want %d", len(seed), index, p, e, want)
	}
	if s, e := winternitz.Sign(seed, index, "x"); s != "" || e != want {
		t.Errorf("W2: Sign(%d bytes, %d): %d bytes, %d, want %d", len(seed), index, len(s), e, want)
	}
}

func TestWrongSignatures(t *testing.T) {
	s, _ := winternitz.Sign(counted(), 0, "x")
	wrong := []string{"", s[1:], s[:2143], s + "x", s + s, s[:2112], s + s[:32], strings.Repeat("x", 1<<20)}
	for n := range 80 {
		wrong = append(wrong, s[:n], s[:2143-n], s+s[:n+1], s[:32*(n%67)])
	}
	for _, signature := range wrong {
		for _, text := range []string{"x", "", "another one"} {
			if p, e := winternitz.Recover(text, signature); p != "" || e != api.ErrKeySize {
				t.Errorf("W3: Recover(%q, %d bytes): %x, %d", text, len(signature), p, e)
			}
		}
	}
}

func TestGreatText(t *testing.T) {
	if testing.Short() {
		t.Skip("it has 16777216 bytes")
	}
	text := strings.Repeat("0123456789abcdef", 1<<20)
	isDigits(t, text)
	if isRecover(t, text, isSign(t, counted(), 9, text)) != isPublic(t, counted(), 9) {
		t.Error("W4: a great text's signature leads to another key")
	}
}

func TestExamples(t *testing.T) {
	if l := winternitz.Digits(""); len(l) != 67 || !slices.Equal(l[:4], []int{6, 2, 12, 6}) {
		t.Errorf("example 1: %v", l)
	}
	if _, e := winternitz.Public(counted()[1:], 0); e != api.ErrKeySize {
		t.Errorf("example 2: Public of 31 bytes: %d", e)
	}
	if _, e := winternitz.Public(counted(), 65536); e != api.ErrArg {
		t.Errorf("example 2: Public(65536): %d", e)
	}
	if _, e := winternitz.Recover("x", ""); e != api.ErrKeySize {
		t.Errorf("example 2: Recover of nothing: %d", e)
	}
}
