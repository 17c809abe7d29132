package winternitz_test

import (
	"runtime"
	"slices"
	"strconv"
	"testing"
	"time"

	"scrivener/winternitz"
)

func TestDigitsAreNew(t *testing.T) {
	for _, text := range texts() {
		want := slowDigits(text)
		kept, other := winternitz.Digits(text), winternitz.Digits(text)
		other = other[:cap(other)]
		for i := range other {
			other[i] = -1
		}
		if !slices.Equal(kept, want) {
			t.Errorf("R2: two lists of a text of %d bytes share memory", len(text))
		}
		isDigits(t, text)
		isRecover(t, text, isSign(t, counted(), 1, text))
	}
}

// What is answered does not hang on what was asked ahead of it.
func TestNothingIsKept(t *testing.T) {
	first := isPublic(t, counted(), 0)
	signed := isSign(t, counted(), 0, "a")
	for _, seed := range append(seeds(), wrongSeeds()[:10]...) {
		for _, index := range []int{-1, 0, 1, 65535, 65536} {
			isPublic(t, seed, index)
			isSign(t, seed, index, "b")
			isRecover(t, "b", signed)
			isRecover(t, "b", signed[1:])
			if isPublic(t, counted(), 0) != first || isSign(t, counted(), 0, "a") != signed || isRecover(t, "a", signed) != first {
				t.Fatal("R2: what was answered once is answered otherwise now")
			}
		}
	}
}

// ended waits until no more goroutines are there than before: one that has told all that it had may be on its way out for a moment.
func ended(before int) bool {
	for range 1000 {
		if runtime.NumGoroutine() <= before {
			return true
		}
		time.Sleep(time.Millisecond)
	}
	return false
}

func TestGoroutinesHaveEnded(t *testing.T) {
	before := runtime.NumGoroutine()
	for i := range 50 {
		winternitz.Public(counted(), i)
		s, _ := winternitz.Sign(counted(), i, "a")
		winternitz.Recover("a", s)
		winternitz.Public("", i)
		winternitz.Sign(counted(), -1, "a")
		winternitz.Recover("a", "")
	}
	if !ended(before) {
		t.Errorf("R2: %d goroutines were there, now %d", before, runtime.NumGoroutine())
	}
}

// How many goroutines run at once is not to be seen in an answer.
func TestHowGoroutinesRun(t *testing.T) {
	defer runtime.GOMAXPROCS(runtime.GOMAXPROCS(0))
	for _, n := range []int{1, 2, 3, 64} {
		runtime.GOMAXPROCS(n)
		for i := range 20 {
			text := "text " + strconv.Itoa(i)
			isPublic(t, counted(), i)
			isRecover(t, text, isSign(t, counted(), i, text))
		}
	}
}

func TestCallsAtOnce(t *testing.T) {
	t.Run("at once", func(t *testing.T) {
		for i := range 8 {
			t.Run(strconv.Itoa(i), func(t *testing.T) {
				t.Parallel()
				for j := range 10 {
					text := "text " + strconv.Itoa(j)
					isDigits(t, text)
					isPublic(t, counted(), j)
					isRecover(t, text, isSign(t, counted(), i, text))
				}
			})
		}
	})
}
