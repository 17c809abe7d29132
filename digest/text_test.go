package digest_test

import (
	"encoding/base64"
	"encoding/hex"
	"math/rand"
	"strings"
	"testing"

	"scrivener/api"
	"scrivener/digest"
)

// checkHex holds FromHex to what Hex says of some bytes, by the standard library's.
func checkHex(t *testing.T, s string) {
	t.Helper()
	b, err := hex.DecodeString(s)
	if err != nil || hex.EncodeToString(b) != s {
		if z, e := digest.FromHex(s); z != "" || e != api.ErrDigestHex {
			t.Errorf("D4: %q: %q, %d", s, z, e)
		}
		return
	}
	if z, e := digest.FromHex(s); z != string(b) || e != api.OK || digest.Hex(z) != s {
		t.Errorf("D4, D6: %q: %q, %d", s, z, e)
	}
}

// checkBase64 holds FromBase64 to what Base64 says of some bytes, likewise.
func checkBase64(t *testing.T, s string) {
	t.Helper()
	b, err := base64.StdEncoding.Strict().DecodeString(s)
	// The library skips line ends: just its own texts are right.
	if err != nil || base64.StdEncoding.EncodeToString(b) != s {
		if z, e := digest.FromBase64(s); z != "" || e != api.ErrDigestBase {
			t.Errorf("D5: %q: %q, %d", s, z, e)
		}
		return
	}
	if z, e := digest.FromBase64(s); z != string(b) || e != api.OK || digest.Base64(z) != s {
		t.Errorf("D5, D6: %q: %q, %d", s, z, e)
	}
}

// checkBoth lays bytes down and reads them again.
func checkBoth(t *testing.T, s string) {
	t.Helper()
	if x := digest.Hex(s); x != hex.EncodeToString([]byte(s)) {
		t.Errorf("D4: of %q: %q", s, x)
	}
	if z, e := digest.FromHex(digest.Hex(s)); z != s || e != api.OK {
		t.Errorf("D6: %q by Hex: %q, %d", s, z, e)
	}
	if x := digest.Base64(s); x != base64.StdEncoding.EncodeToString([]byte(s)) {
		t.Errorf("D5: of %q: %q", s, x)
	}
	if z, e := digest.FromBase64(digest.Base64(s)); z != s || e != api.OK {
		t.Errorf("D6: %q by Base64: %q, %d", s, z, e)
	}
}

func TestThereAndBack(t *testing.T) {
	for n := range 300 {
		checkBoth(t, text(n))
		checkBoth(t, strings.Repeat("\xff", n))
		checkBoth(t, strings.Repeat("\x00", n))
	}
	for a := range 256 {
		checkBoth(t, string([]byte{byte(a)}))
		for b := range 256 {
			checkBoth(t, string([]byte{byte(a), byte(b)}))
			checkBoth(t, string([]byte{byte(b), 0x3f, byte(a)}))
		}
	}
	checkBoth(t, text(1<<20))
}

func TestHexExamples(t *testing.T) {
	if s := digest.Hex("\x00\xff"); s != "00ff" {
		t.Errorf("D4: %q", s)
	}
	for _, s := range []string{"0", "0F", "F0", "fF", "000", "0g", "g0", "0x00", "00 ", " 00", "00\n\n", "\x00\x00", "00é", "::", "//", "``", "@@", "00ff0"} {
		if z, e := digest.FromHex(s); z != "" || e != api.ErrDigestHex {
			t.Errorf("D4: %q: %q, %d", s, z, e)
		}
	}
}

func TestFromHexOfAnySigns(t *testing.T) {
	checkHex(t, "")
	for a := range 256 {
		checkHex(t, string([]byte{byte(a)}))
		for b := range 256 {
			checkHex(t, string([]byte{byte(a), byte(b)}))
			checkHex(t, "0a"+string([]byte{byte(a), byte(b)})+"f9")
		}
	}
}

func TestBase64Examples(t *testing.T) {
	for bytes, s := range map[string]string{
		"": "", "a": "YQ==", "ab": "YWI=", "abc": "YWJj", "abca": "YWJjYQ==",
		"\xff": "/w==", "\xff\xff": "//8=", "\xff\xff\xff": "////", "\xfb\xef\xbe": "++++",
	} {
		if x := digest.Base64(bytes); x != s {
			t.Errorf("D5: of %q: %q", bytes, x)
		}
	}
	for _, s := range []string{
		"YR==", "YWK=", "YWJ=", "YQ=", "YQ", "Y", "YWJjY", "YWJjYQ", "YWJjYQ=", "YWI", "YWJjYWI",
		"YQ===", "YQ====", "YWI==", "YWJj=", "YWJj==", "YWJj====", "=", "==", "===", "====", "Y===",
		"=Q==", "Y=Q=", "YQ=Q", "=YWI", "YQ==YQ==", "YWI=YWI=", "YQ==YWJj", "YWI=YWJj",
		"YWJj\n", "YW\nJj", "\nYWJj", "YWJj\r\n", "YQ==\n", "YWJ\n", "\n\n\n\n", "YWJj\n\n\n\n",
		"YWJ-", "YWJ_", "YWJ ", "YWJ*", "YWJ.", "YWJ\x00", "YWJ\x80", "YWé",
	} {
		if z, e := digest.FromBase64(s); z != "" || e != api.ErrDigestBase {
			t.Errorf("D5: %q: %q, %d", s, z, e)
		}
	}
}

func TestFromBase64OfAnySigns(t *testing.T) {
	const signs = "AQRgvwz09+/=-_\n\x80"
	for i := range len(signs) {
		for j := range len(signs) {
			for k := range len(signs) {
				for l := range len(signs) {
					s := string([]byte{signs[i], signs[j], signs[k], signs[l]})
					checkBase64(t, s)
					checkBase64(t, "YWJj"+s)
				}
			}
		}
	}
	for a := range 256 {
		for _, s := range []string{"AAAA", "AAA=", "AA==", "AAAAAAAA"} {
			for at := range len(s) {
				b := []byte(s)
				b[at] = byte(a)
				checkBase64(t, string(b))
			}
		}
	}
}

func TestFromBase64OfAnyLengths(t *testing.T) {
	r := rand.New(rand.NewSource(3))
	const signs = "ABQgw+/8=="
	for n := range 20 {
		for range 2000 {
			b := make([]byte, n)
			for i := range b {
				b[i] = signs[r.Intn(len(signs))]
			}
			checkBase64(t, string(b))
		}
	}
	for n := range 40 {
		s := digest.Base64(text(n))
		for i := range len(s) {
			checkBase64(t, s[:i])
			checkBase64(t, s[i:])
			checkBase64(t, s[:i]+"\n"+s[i:])
			checkBase64(t, s[:i]+"="+s[i:])
		}
	}
}
