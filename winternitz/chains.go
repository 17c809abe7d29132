package winternitz

import (
	"strings"
	"sync"

	"scrivener/api"
	"scrivener/digest"
)

const (
	base       = 16
	lastDigit  = base - 1
	sumDigits  = 3 // enough for the greatest sum, 15 times 64
	chainCount = 2*api.HashSize + sumDigits
)

// digitsOf are the digits of a text's digest. The sum behind them falls where they rise: so no other digest's are all at least as great.
func digitsOf(hash string) []int {
	digits := make([]int, 0, chainCount)
	sum := 0
	for i := range len(hash) {
		high, low := int(hash[i]/base), int(hash[i]%base)
		digits = append(digits, high, low)
		sum += 2*lastDigit - high - low
	}
	return append(digits, sum/base/base, sum/base%base, sum%base)
}

// secret is what the chain c begins with.
func secret(seed string, index, c int) string {
	return digest.Sum(secretMark, seed, bytesOf(index/256, index%256, c))
}

// walk leads from the from-th value of the chain c to the to-th one.
func walk(c int, value string, from, to int) string {
	for i := from; i < to; i++ {
		value = digest.Sum(stepMark, bytesOf(c, i), value)
	}
	return value
}

// bytesOf are numbers below 256, each as a byte.
func bytesOf(numbers ...int) string {
	out := make([]byte, len(numbers))
	for i, n := range numbers {
		out[i] = byte(n)
	}
	return string(out)
}

// ofChains is what is told of each chain, in their order. A goroutine goes each of them, into a place of its own, so that none waits for another one.
func ofChains(value func(c int) string) string {
	values := make([]string, chainCount)
	var chains sync.WaitGroup
	for c := range chainCount {
		chains.Add(1)
		go func() {
			defer chains.Done()
			values[c] = value(c)
		}()
	}
	chains.Wait()
	return strings.Join(values, "")
}
