package codec

import "scrivener/api"

const (
	greatest      = 1 << 62 // number
	mostDigits    = 9       // a number has
	digitBits     = 7
	greatestDigit = 1<<digitBits - 1
	moreMark      = 1 << digitBits // is added to a digit behind which another one comes
)

// whole is every kind of whole numbers.
type whole interface {
	~int | ~int8 | ~int16 | ~int32 | ~int64 | ~uint | ~uint8 | ~uint16 | ~uint32 | ~uint64 | ~uintptr
}

// isNumber tells whether n is one that has digits here.
func isNumber[N whole](n N) bool { return n >= 0 && uint64(n) <= greatest }

// appendNum lays the digits of a number behind what is there.
func appendNum[N whole](out []byte, n N) []byte {
	// Not n >= moreMark: the smallest kind does not hold that.
	for n > greatestDigit {
		out = append(out, byte(n)|moreMark)
		n >>= digitBits
	}
	return append(out, byte(n))
}

// numAt is the number with which s begins, and what stands behind it.
func numAt(s string) (int, string, api.Errno) {
	n := 0
	for i := range mostDigits {
		if i == len(s) {
			return 0, "", api.ErrCodecShort
		}
		digit := s[i]
		n |= int(digit&greatestDigit) << (digitBits * i)
		switch {
		case digit >= moreMark:
			continue
		case digit == 0 && i > 0:
			return 0, "", api.ErrCodecForm
		case !isNumber(n):
			return 0, "", api.ErrCodecRange
		}
		return n, s[i+1:], api.OK
	}
	return 0, "", api.ErrCodecRange
}

// manyAt is the number with which s begins, if it is at most so much, and what stands behind it.
func manyAt(s string, most int) (int, string, api.Errno) {
	if most < 0 {
		return 0, "", api.ErrArg
	}
	n, rest, e := numAt(s)
	if e != api.OK {
		return 0, "", e
	}
	if n > most {
		return 0, "", api.ErrCodecLong
	}
	return n, rest, api.OK
}
