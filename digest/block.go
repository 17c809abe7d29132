package digest

import (
	"math/bits"

	"scrivener/api"
)

const (
	blockSize  = 64
	blockWords = 16
	stateWords = 8
	roundCount = 64
	wordSize   = 4
	lengthSize = 8
)

// start is H(0) to H(7): of the square roots of the first primes the first 32 bits behind the point.
var start = [stateWords]uint32{
	0x6a09e667, 0xbb67ae85, 0x3c6ef372, 0xa54ff53a, 0x510e527f, 0x9b05688c, 0x1f83d9ab, 0x5be0cd19,
}

// rounds is K(0) to K(63): of the cube roots of the first primes likewise.
var rounds = [roundCount]uint32{
	0x428a2f98, 0x71374491, 0xb5c0fbcf, 0xe9b5dba5, 0x3956c25b, 0x59f111f1, 0x923f82a4, 0xab1c5ed5,
	0xd807aa98, 0x12835b01, 0x243185be, 0x550c7dc3, 0x72be5d74, 0x80deb1fe, 0x9bdc06a7, 0xc19bf174,
	0xe49b69c1, 0xefbe4786, 0x0fc19dc6, 0x240ca1cc, 0x2de92c6f, 0x4a7484aa, 0x5cb0a9dc, 0x76f988da,
	0x983e5152, 0xa831c66d, 0xb00327c8, 0xbf597fc7, 0xc6e00bf3, 0xd5a79147, 0x06ca6351, 0x14292967,
	0x27b70a85, 0x2e1b2138, 0x4d2c6dfc, 0x53380d13, 0x650a7354, 0x766a0abb, 0x81c2c92e, 0x92722c85,
	0xa2bfe8a1, 0xa81a664b, 0xc24b8b70, 0xc76c51a3, 0xd192e819, 0xd6990624, 0xf40e3585, 0x106aa070,
	0x19a4c116, 0x1e376c08, 0x2748774c, 0x34b0bcb5, 0x391c0cb3, 0x4ed8aa4a, 0x5b9cca4f, 0x682e6ff3,
	0x748f82ee, 0x78a5636f, 0x84c87814, 0x8cc70208, 0x90befffa, 0xa4506ceb, 0xbef9a3f7, 0xc67178f2,
}

// ror is x turned right.
func ror(x uint32, n int) uint32 { return bits.RotateLeft32(x, -n) }

// schedule is W(0) to W(63) of a block.
func schedule(block [blockSize]byte) [roundCount]uint32 {
	var w [roundCount]uint32
	for t := range blockWords {
		at := wordSize * t
		w[t] = uint32(block[at])<<24 | uint32(block[at+1])<<16 | uint32(block[at+2])<<8 | uint32(block[at+3])
	}
	for t := blockWords; t < roundCount; t++ {
		p, q := w[t-15], w[t-2]
		s0 := ror(p, 7) ^ ror(p, 18) ^ p>>3
		s1 := ror(q, 17) ^ ror(q, 19) ^ q>>10
		w[t] = s1 + w[t-7] + s0 + w[t-16]
	}
	return w
}

// fold is the state behind one block more.
func fold(state [stateWords]uint32, block [blockSize]byte) [stateWords]uint32 {
	w := schedule(block)
	a, b, c, d := state[0], state[1], state[2], state[3]
	e, f, g, h := state[4], state[5], state[6], state[7]
	for t := range roundCount {
		s1 := ror(e, 6) ^ ror(e, 11) ^ ror(e, 25)
		x := h + s1 + (e&f ^ ^e&g) + rounds[t] + w[t]
		s0 := ror(a, 2) ^ ror(a, 13) ^ ror(a, 22)
		y := s0 + (a&b ^ a&c ^ b&c)
		h, g, f, e = g, f, e, d+x
		d, c, b, a = c, b, a, x+y
	}
	return [stateWords]uint32{
		state[0] + a, state[1] + b, state[2] + c, state[3] + d,
		state[4] + e, state[5] + f, state[6] + g, state[7] + h,
	}
}

// filling is what stands behind a text of n bytes: at most a block and the length more.
func filling(n int) string {
	var f [blockSize + lengthSize]byte
	f[0] = 128
	least := 1 + lengthSize
	size := least + (2*blockSize-least-n%blockSize)%blockSize
	for i := range lengthSize {
		f[size-1-i] = byte(uint64(n) * 8 >> (8 * i))
	}
	return string(f[:size])
}

// wordBytes is the state's words as bytes, the highest first.
func wordBytes(state [stateWords]uint32) string {
	var out [api.HashSize]byte
	for i := range out {
		out[i] = byte(state[i/wordSize] >> (8 * (wordSize - 1 - i%wordSize)))
	}
	return string(out[:])
}
