package digest

import (
	"math/big"
	"testing"
)

// primes is the first n of them.
func primes(n int) []int64 {
	var l []int64
	for p := int64(2); len(l) < n; p++ {
		if big.NewInt(p).ProbablyPrime(0) {
			l = append(l, p)
		}
	}
	return l
}

// rootBits is the lowest 32 bits of the greatest whole number whose power is at most p 2^(32 power).
func rootBits(p int64, power int64) uint32 {
	bound := new(big.Int).Lsh(big.NewInt(p), uint(32*power))
	root := new(big.Int)
	for bit := 40; bit >= 0; bit-- {
		root.SetBit(root, bit, 1)
		if new(big.Int).Exp(root, big.NewInt(power), nil).Cmp(bound) > 0 {
			root.SetBit(root, bit, 0)
		}
	}
	return uint32(root.Uint64())
}

func TestTables(t *testing.T) {
	for i, p := range primes(roundCount) {
		if i < stateWords && start[i] != rootBits(p, 2) {
			t.Errorf("D1: H(%d) is %x", i, start[i])
		}
		if rounds[i] != rootBits(p, 3) {
			t.Errorf("D1: K(%d) is %x", i, rounds[i])
		}
	}
}

func TestFilling(t *testing.T) {
	for n := range 300 {
		f := filling(n)
		if (n+len(f))%blockSize != 0 || len(f) < 9 || len(f) >= 9+blockSize || f[0] != 128 {
			t.Errorf("D1: behind %d bytes: %d bytes", n, len(f))
		}
	}
	n := 1<<61 - 1
	f := filling(n)
	if f[len(f)-8:] != "\xff\xff\xff\xff\xff\xff\xff\xf8" {
		t.Errorf("D1: behind %d bytes: %x", n, f)
	}
}
