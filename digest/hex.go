package digest

import "scrivener/api"

const hexSigns = "0123456789abcdef"

// Hex is bytes as digits.
func Hex(s string) string {
	out := make([]byte, 0, 2*len(s))
	for i := range len(s) {
		out = append(out, hexSigns[s[i]>>4], hexSigns[s[i]&15])
	}
	return string(out)
}

// FromHex reads them.
func FromHex(s string) (string, api.Errno) {
	if len(s)%2 != 0 {
		return "", api.ErrDigestHex
	}
	out := make([]byte, 0, len(s)/2)
	for i := 0; i < len(s); i += 2 {
		high, highOK := hexValue(s[i])
		low, lowOK := hexValue(s[i+1])
		if !highOK || !lowOK {
			return "", api.ErrDigestHex
		}
		out = append(out, high<<4|low)
	}
	return string(out), api.OK
}

// hexValue is what a sign stands for. Capital letters are none: each byte has one text.
func hexValue(sign byte) (byte, bool) {
	switch {
	case '0' <= sign && sign <= '9':
		return sign - '0', true
	case 'a' <= sign && sign <= 'f':
		return sign - 'a' + 10, true
	}
	return 0, false
}
