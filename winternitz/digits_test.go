package winternitz

import (
	"math/rand"
	"slices"
	"strings"
	"testing"
)

// No text is known whose digest is all noughts: so the edges of the sum are asked of the digest's digits.

// sumOf is what the last three digits tell.
func sumOf(digits []int) int { return 256*digits[64] + 16*digits[65] + digits[66] }

func TestEdgesOfTheSum(t *testing.T) {
	for _, c := range []struct {
		hash   string
		behind []int
	}{
		{strings.Repeat("\x00", 32), []int{3, 12, 0}},                                     // 960, the greatest
		{strings.Repeat("\xff", 32), []int{0, 0, 0}},                                      // 0, the least
		{strings.Repeat("\xff", 31) + "\xfe", []int{0, 0, 1}},                             // 1
		{strings.Repeat("\xff", 31) + "\x0f", []int{0, 0, 15}},                            // 15
		{"\xf0" + strings.Repeat("\xff", 31), []int{0, 0, 15}},                            // 15
		{"\xfe\xf0" + strings.Repeat("\xff", 30), []int{0, 1, 0}},                         // 16
		{strings.Repeat("\x00", 8) + strings.Repeat("\xff", 24), []int{0, 15, 0}},         // 240
		{strings.Repeat("\x00", 8) + "\x0e" + strings.Repeat("\xff", 23), []int{1, 0, 0}}, // 256
		{"\x01" + strings.Repeat("\x00", 31), []int{3, 11, 15}},                           // 959
	} {
		digits := digitsOf(c.hash)
		if len(digits) != 67 || !slices.Equal(digits[64:], c.behind) {
			t.Errorf("W1: the digits of the digest %x: %v, want at their end %v", c.hash, digits, c.behind)
		}
	}
}

func TestDigitsOfADigest(t *testing.T) {
	r := rand.New(rand.NewSource(1))
	for range 500 {
		hash := make([]byte, 32)
		r.Read(hash)
		digits := digitsOf(string(hash))
		sum := 0
		for i, b := range hash {
			if digits[2*i] != int(b>>4) || digits[2*i+1] != int(b&15) {
				t.Fatalf("W1: the digest %x: the byte %d is %d and %d", hash, i, digits[2*i], digits[2*i+1])
			}
			sum += 15 - digits[2*i] + 15 - digits[2*i+1]
		}
		if len(digits) != 67 || sumOf(digits) != sum || slices.Min(digits) < 0 || slices.Max(digits) > 15 {
			t.Fatalf("W1: the digest %x: %v, whose sum is %d", hash, digits, sum)
		}
	}
}

// eachIsAbove tells whether each of both has a digit above the other one's.
func eachIsAbove(a, b []int) bool {
	over, under := false, false
	for i := range a {
		over, under = over || a[i] > b[i], under || a[i] < b[i]
	}
	return over && under
}

// holdAbove holds two unlike digests to W4.
func holdAbove(t *testing.T, a, b string) {
	t.Helper()
	if a != b && !eachIsAbove(digitsOf(a), digitsOf(b)) {
		t.Errorf("W4: of %x and %x one has no digit above the other one's", a, b)
	}
}

// Of digests of which one is nowhere below the other one, the sum alone is above.
func TestEachDigestIsSomewhereAbove(t *testing.T) {
	r := rand.New(rand.NewSource(2))
	var all []string
	for _, b := range []string{"\x00", "\x01", "\x0f", "\x10", "\xf0", "\xfe", "\xef", "\xff"} {
		all = append(all, strings.Repeat(b, 32))
	}
	for range 20 {
		hash := make([]byte, 32)
		r.Read(hash)
		all = append(all, string(hash))
	}
	for _, a := range all {
		for _, b := range all {
			holdAbove(t, a, b)
			for n := range 33 {
				holdAbove(t, a, a[:n]+b[n:])
			}
		}
		for bit := range 256 {
			other := []byte(a)
			other[bit/8] ^= 1 << (bit % 8)
			holdAbove(t, a, string(other))
		}
	}
}
