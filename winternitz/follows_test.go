package winternitz_test

import (
	"math/rand"
	"strconv"
	"testing"

	"scrivener/api"
	"scrivener/winternitz"
)

// What follows: W4.

func TestRecoveredIsPublic(t *testing.T) {
	r := rand.New(rand.NewSource(5))
	for i := range 200 {
		seed, text := make([]byte, 32), make([]byte, r.Intn(100))
		r.Read(seed)
		r.Read(text)
		index := []int{0, 255, 256, 65535, r.Intn(65536)}[i%5]
		s, e := winternitz.Sign(string(seed), index, string(text))
		p, f := winternitz.Recover(string(text), s)
		want, g := winternitz.Public(string(seed), index)
		if p != want || e != api.OK || f != api.OK || g != api.OK {
			t.Errorf("W4: %x under %x, %d: %d, %d, %d: another key", text, seed, index, e, f, g)
		}
	}
}

func TestRecoveredIsPublicOfManyTexts(t *testing.T) {
	want, _ := winternitz.Public(counted(), 7)
	for _, text := range texts() {
		s, _ := winternitz.Sign(counted(), 7, text)
		if p, e := winternitz.Recover(text, s); p != want || e != api.OK {
			t.Errorf("W4: a text of %d bytes: %d: another key", len(text), e)
		}
	}
}

// Each value counts, and each of its bytes: another one leads to another key.
func TestEachValueCounts(t *testing.T) {
	want, _ := winternitz.Public(counted(), 7)
	s, _ := winternitz.Sign(counted(), 7, "a checkpoint")
	for c := range 67 {
		for _, at := range []int{32 * c, 32*c + c%32, 32*c + 31} {
			b := []byte(s)
			b[at] ^= 1 << (c % 8)
			if p, e := winternitz.Recover("a checkpoint", string(b)); p == want || e != api.OK {
				t.Errorf("W3: with another byte %d: %d", at, e)
			}
		}
	}
}

// Values that stand in one another's place lead to another key.
func TestOrderCounts(t *testing.T) {
	want, _ := winternitz.Public(counted(), 7)
	s, _ := winternitz.Sign(counted(), 7, "a checkpoint")
	for c := range 66 {
		turned := s[:32*c] + s[32*(c+1):32*(c+2)] + s[32*c:32*(c+1)] + s[32*(c+2):]
		if p, e := winternitz.Recover("a checkpoint", turned); p == want || e != api.OK {
			t.Errorf("W3: the chains %d and %d turned round: %d", c, c+1, e)
		}
	}
}

// further is the most that whoever has a signature of one text can make of it for another one, and in how many chains that is not enough.
func further(signature, text, other string) (string, int) {
	forged, missing := "", 0
	have, need := slowDigits(text), slowDigits(other)
	for c := range 67 {
		values := chainOf(c, have[c], signature[32*c:32*(c+1)])
		if need[c] < have[c] {
			missing++
		}
		forged += values[max(0, need[c]-have[c])]
	}
	return forged, missing
}

func TestOtherTexts(t *testing.T) {
	const index = 300
	want, _ := winternitz.Public(counted(), index)
	for i := range 60 {
		text := "text " + strconv.Itoa(i)
		s, _ := winternitz.Sign(counted(), index, text)
		for j := range 12 {
			other := "other " + strconv.Itoa(j)
			if p, e := winternitz.Recover(other, s); p == want || e != api.OK {
				t.Errorf("W3: %q's signature with %q: %d", text, other, e)
			}
			forged, missing := further(s, text, other)
			if missing == 0 {
				t.Errorf("W4: %q's signature leads by further steps to one of %q", text, other)
			}
			if p, e := winternitz.Recover(other, forged); p == want || e != api.OK {
				t.Errorf("W4: %q's signature gone further, with %q: %d", text, other, e)
			}
		}
		if forged, missing := further(s, text, text); missing != 0 || forged != s {
			t.Errorf("W4: %q's own signature is not enough for it", text)
		}
	}
}

// Of two texts each has a digit above the other one's.
func TestEachIsSomewhereAbove(t *testing.T) {
	var all [][]int
	for i := range 400 {
		all = append(all, winternitz.Digits("text "+strconv.Itoa(i)))
	}
	for i, a := range all {
		for j, b := range all {
			if i != j && !hasAbove(a, b) {
				t.Errorf("W4: the text %d has no digit above one of the text %d", i, j)
			}
		}
	}
}

func hasAbove(a, b []int) bool {
	for i := range a {
		if a[i] > b[i] {
			return true
		}
	}
	return false
}

// Another seed or another index: the key is another one, and a signature of the one leads to its own.
func TestKeysAreUnlike(t *testing.T) {
	keys := map[string]int{}
	count := 0
	for _, seed := range seeds() {
		for _, index := range []int{0, 1, 2, 256, 512, 65535} {
			p, _ := winternitz.Public(seed, index)
			s, _ := winternitz.Sign(seed, index, "a checkpoint")
			if q, _ := winternitz.Recover("a checkpoint", s); q != p {
				t.Errorf("W4: the index %d: another key", index)
			}
			keys[p]++
			count++
		}
	}
	if len(keys) != count {
		t.Errorf("W2: of %d keys %d are unlike", count, len(keys))
	}
}
