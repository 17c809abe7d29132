package digest

import (
	"strings"

	"scrivener/api"
)

const (
	baseSigns = "ABCDEFGHIJKLMNOPQRSTUVWXYZabcdefghijklmnopqrstuvwxyz0123456789+/"
	baseFill  = "=="
	groupText = 4 // signs of a whole group
	groupSize = 3 // its bytes
)

// Base64 is bytes as Base64.
func Base64(s string) string {
	out := make([]byte, 0, (len(s)+groupSize-1)/groupSize*groupText)
	for len(s) >= groupSize {
		out = appendGroup(out, s[:groupSize])
		s = s[groupSize:]
	}
	if len(s) > 0 {
		out = appendGroup(out, s)
	}
	return string(out)
}

// appendGroup lays down one to three bytes as four signs.
func appendGroup(out []byte, group string) []byte {
	word := uint32(0)
	for i := range groupSize {
		word <<= 8
		if i < len(group) {
			word |= uint32(group[i])
		}
	}
	for i := range len(group) + 1 {
		out = append(out, baseSigns[word>>(18-6*i)&63])
	}
	return append(out, baseFill[:groupSize-len(group)]...)
}

// FromBase64 reads it, strictly.
func FromBase64(s string) (string, api.Errno) {
	if len(s)%groupText != 0 {
		return "", api.ErrDigestBase
	}
	out := make([]byte, 0, len(s)/groupText*groupSize)
	for at := 0; at < len(s); at += groupText {
		group := s[at : at+groupText]
		fill := 0
		if at+groupText == len(s) {
			fill = fillOf(group)
		}
		word, ok := wordOf(group[:groupText-fill])
		// Bits that belong to no byte are noughts, else two texts would tell the same bytes.
		if !ok || word&(1<<(8*fill)-1) != 0 {
			return "", api.ErrDigestBase
		}
		for i := range groupSize - fill {
			out = append(out, byte(word>>(16-8*i)))
		}
	}
	return string(out), api.OK
}

// fillOf is how many of the group's last signs are filling.
func fillOf(group string) int {
	fill := len(baseFill)
	for !strings.HasSuffix(group, baseFill[:fill]) {
		fill--
	}
	return fill
}

// wordOf is the 24 bits of a group's signs, with noughts behind them.
func wordOf(signs string) (uint32, bool) {
	word := uint32(0)
	for i := range len(signs) {
		value, ok := baseValue(signs[i])
		if !ok {
			return 0, false
		}
		word |= value << (18 - 6*i)
	}
	return word, true
}

// baseValue is what a sign stands for.
func baseValue(sign byte) (uint32, bool) {
	switch {
	case 'A' <= sign && sign <= 'Z':
		return uint32(sign - 'A'), true
	case 'a' <= sign && sign <= 'z':
		return uint32(sign-'a') + 26, true
	case '0' <= sign && sign <= '9':
		return uint32(sign-'0') + 52, true
	case sign == '+':
		return 62, true
	case sign == '/':
		return 63, true
	}
	return 0, false
}
