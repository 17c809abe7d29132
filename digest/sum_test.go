package digest_test

import (
	"crypto/sha256"
	"math/rand"
	"slices"
	"strings"
	"testing"

	"scrivener/api"
	"scrivener/digest"
)

// expected is the digest by the standard library.
func expected(s string) string {
	b := sha256.Sum256([]byte(s))
	return string(b[:])
}

// text is n bytes of no order, the same ones each time.
func text(n int) string {
	b := make([]byte, n)
	rand.New(rand.NewSource(int64(n))).Read(b)
	return string(b)
}

func TestSumExamples(t *testing.T) {
	for _, x := range []struct {
		parts []string
		hex   string
	}{
		{nil, "e3b0c44298fc1c149afbf4c8996fb92427ae41e4649b934ca495991b7852b855"},
		{[]string{""}, "e3b0c44298fc1c149afbf4c8996fb92427ae41e4649b934ca495991b7852b855"},
		{[]string{"", "", ""}, "e3b0c44298fc1c149afbf4c8996fb92427ae41e4649b934ca495991b7852b855"},
		{[]string{"a", "bc"}, "ba7816bf8f01cfea414140de5dae2223b00361a396177a9cb410ff61f20015ad"},
		{[]string{"", "a", "", "bc", ""}, "ba7816bf8f01cfea414140de5dae2223b00361a396177a9cb410ff61f20015ad"},
		{[]string{"abc"}, "ba7816bf8f01cfea414140de5dae2223b00361a396177a9cb410ff61f20015ad"},
		{[]string{"abcdbcdecdefdefgefghfghighijhijkijkljklmklmnlmnomnopnopq"}, "248d6a61d20638b8e5c026930c3e6039a33ce45964ff2167f6ecedd419db06c1"},
		{[]string{strings.Repeat("a", 1000000)}, "cdc76e5c9914fb9281a1c7e284d73e67f1809a48a497200e046d39ccc7112cd0"},
	} {
		if s := digest.Hex(digest.Sum(x.parts...)); s != x.hex {
			t.Errorf("D1: of %d parts: %s, not %s", len(x.parts), s, x.hex)
		}
	}
}

func TestSumLengths(t *testing.T) {
	for n := range 400 {
		s := text(n)
		if digest.Sum(s) != expected(s) {
			t.Errorf("D1: of %d bytes", n)
		}
	}
	for _, n := range []int{1 << 12, 1<<16 - 9, 1<<16 + 1, 1 << 21} {
		s := text(n)
		if digest.Sum(s) != expected(s) {
			t.Errorf("D1: of %d bytes", n)
		}
	}
}

// A text whose bits are counted by more than 32 bits.
func TestSumOfManyBits(t *testing.T) {
	if testing.Short() {
		t.Skip("half a gigabyte")
	}
	part := strings.Repeat("\xa5", 1<<24)
	h, other := digest.New(), sha256.New()
	for range 1<<29>>24 + 1 {
		h.Write(part)
		other.Write([]byte(part))
	}
	if h.Sum() != string(other.Sum(nil)) {
		t.Errorf("D1: of %d bytes", h.Len())
	}
}

func TestSumLeavesItsParts(t *testing.T) {
	room := []string{"a", "", strings.Repeat("b", 100), "spare", "room"}
	before := slices.Clone(room)
	digest.Sum(room[:3]...)
	if !slices.Equal(room, before) {
		t.Errorf("D1: the parts are %q", room)
	}
}

func TestSumOfAnyParts(t *testing.T) {
	for _, n := range []int{0, 1, 55, 56, 63, 64, 65, 119, 120, 128, 200} {
		s := text(n)
		for i := range n + 1 {
			for j := i; j <= n; j++ {
				if digest.Sum(s[:i], s[i:j], s[j:]) != expected(s) {
					t.Fatalf("D6: %d bytes cut at %d and %d", n, i, j)
				}
			}
		}
		if digest.Sum(strings.Split(s, "")...) != expected(s) {
			t.Errorf("D6: %d bytes, sign by sign", n)
		}
	}
}

// model is a hasher, and all that it should have taken.
type model struct {
	hasher *digest.Hasher
	all    string
}

func (m model) check(t *testing.T) {
	t.Helper()
	if m.hasher.Len() != len(m.all) {
		t.Fatalf("D2: Len is %d behind %d bytes", m.hasher.Len(), len(m.all))
	}
	if s := expected(m.all); m.hasher.Sum() != s || m.hasher.Sum() != s {
		t.Fatalf("D2: Sum behind %d bytes", len(m.all))
	}
}

func TestHasherInAnyOrder(t *testing.T) {
	r := rand.New(rand.NewSource(2))
	for range 50 {
		models := []model{{digest.New(), ""}}
		for range 100 {
			m := &models[r.Intn(len(models))]
			switch r.Intn(4) {
			case 0:
				models = append(models, model{m.hasher.Clone(), m.all})
			case 1:
				m.check(t)
			default:
				s := text(r.Intn(150))
				m.hasher.Write(s)
				m.all += s
			}
		}
		for _, m := range models {
			m.check(t)
		}
	}
}

func TestHasherGoesOn(t *testing.T) {
	for n := range 200 {
		m := model{digest.New(), ""}
		m.check(t)
		for range 3 {
			m.hasher.Write(text(n))
			m.all += text(n)
			m.check(t)
			m.hasher.Write("")
			m.check(t)
		}
	}
}

func TestClonesApart(t *testing.T) {
	for n := range 130 {
		one := model{digest.New(), text(n)}
		one.hasher.Write(one.all)
		two := model{one.hasher.Clone(), one.all}
		three := model{two.hasher.Clone(), one.all}
		one.hasher.Write("more of the one")
		two.hasher.Write(strings.Repeat("and of the other", 9))
		one.all += "more of the one"
		two.all += strings.Repeat("and of the other", 9)
		one.check(t)
		two.check(t)
		three.check(t)
	}
}

func TestHasherOfNoKind(t *testing.T) {
	var none *digest.Hasher
	none.Write("abc")
	if none.Len() != 0 || none.Sum() != expected("") {
		t.Error("R1: no hasher")
	}
	c := none.Clone()
	c.Write("abc")
	model{c, "abc"}.check(t)
	var zero digest.Hasher
	model{&zero, ""}.check(t)
	zero.Write(text(100))
	model{&zero, text(100)}.check(t)
}

func TestLeafAndEmpty(t *testing.T) {
	if digest.Empty() != expected("") {
		t.Error("D3: Empty")
	}
	if s := digest.Hex(digest.Leaf("")); s != "6e340b9cffb37a989ca544e6bb780a2c78901d3fb33738768511a30617afa01d" {
		t.Errorf("D3: Leaf of nothing: %s", s)
	}
	for _, n := range []int{0, 1, 31, 32, 54, 55, 63, 64, 65, api.MaxEntry, api.MaxEntry + 1, 100000} {
		if s := text(n); digest.Leaf(s) != expected("\x00"+s) {
			t.Errorf("D3: Leaf of %d bytes", n)
		}
	}
}

func TestNode(t *testing.T) {
	for n := range 20 {
		left, right := expected(text(n)), expected(text(n+1))
		if s, e := digest.Node(left, right); s != expected("\x01"+left+right) || e != api.OK {
			t.Errorf("D3: a node: %x, %d", s, e)
		}
	}
	sizes := []int{0, 1, 31, 32, 33, 64}
	for _, l := range sizes {
		for _, r := range sizes {
			s, e := digest.Node(text(l), text(r))
			if l == 32 && r == 32 {
				continue
			}
			if s != "" || e != api.ErrDigestSize {
				t.Errorf("D3: a node of %d and %d bytes: %x, %d", l, r, s, e)
			}
		}
	}
}
