package trie_test

import (
	"crypto/sha256"
	"slices"
	"strings"
	"testing"

	"scrivener/api"
	"scrivener/digest"
	"scrivener/trie"
)

// The model takes the words as they stand: keys and values are a list, bits are a text of the digits 0 and 1, and each hash of a set is worked out anew whenever it is asked for.

// hashOf is the digest of some texts, one behind the other. Over the weak digest that one's are what the words speak of.
func hashOf(parts ...string) string {
	if isWeak() {
		return digest.Sum(parts...)
	}
	sum := sha256.Sum256([]byte(strings.Join(parts, "")))
	return string(sum[:])
}

var noughts = strings.Repeat("\x00", 32)

// bitsOf are the bits of some bytes, as digits.
func bitsOf(bytes string) string {
	var digits []byte
	for _, b := range []byte(bytes) {
		for power := 128; power > 0; power /= 2 {
			digits = append(digits, '0'+b/byte(power)%2)
		}
	}
	return string(digits)
}

// pair is a key and its value, and the bits of its digest.
type pair struct{ key, value, bits string }

func pairOf(key, value string) pair { return pair{key, value, bitsOf(hashOf(key))} }

type model []pair

// parted are those whose bit of a place is as it is told, and the others.
func (m model) parted(d int, bit byte) (same, others model) {
	for _, x := range m {
		if x.bits[d] == bit {
			same = append(same, x)
		} else {
			others = append(others, x)
		}
	}
	return same, others
}

func (m model) hash(d int) string {
	switch len(m) {
	case 0:
		return noughts
	case 1:
		return hashOf("\x02", hashOf(m[0].key), hashOf(m[0].value))
	}
	left, right := m.parted(d, '0')
	return hashOf("\x03", left.hash(d+1), right.hash(d+1))
}

func (m model) at(key string) int {
	bits := bitsOf(hashOf(key))
	return slices.IndexFunc(m, func(x pair) bool { return x.bits == bits })
}

func isLong(key, value string) bool { return len(key) > 200 || len(value) > 1000 }

func (m *model) set(key, value string) api.Errno {
	if isLong(key, value) {
		return api.ErrTrieLong
	}
	m.remove(key)
	*m = append(*m, pairOf(key, value))
	return api.OK
}

func (m *model) remove(key string) (bool, api.Errno) {
	if isLong(key, "") {
		return false, api.ErrTrieLong
	}
	i := m.at(key)
	if i >= 0 {
		*m = slices.Delete(slices.Clone(*m), i, i+1)
	}
	return i >= 0, api.OK
}

func (m model) get(key string) (string, bool) {
	if i := m.at(key); i >= 0 && !isLong(key, "") {
		return m[i].value, true
	}
	return "", false
}

func (m model) keys() []string {
	var keys []string
	for _, x := range m {
		keys = append(keys, x.key)
	}
	slices.Sort(keys)
	return keys
}

func (m model) prove(key string) (api.Lookup, api.Errno) {
	if isLong(key, "") {
		return api.Lookup{}, api.ErrTrieLong
	}
	var p api.Lookup
	bits := bitsOf(hashOf(key))
	for d, set := 0, m; ; d++ {
		if len(set) == 1 {
			p.There, p.Key, p.Value = true, hashOf(set[0].key), hashOf(set[0].value)
		}
		if len(set) < 2 {
			return p, api.OK
		}
		same, others := set.parted(d, bits[d])
		p.Sides = append(p.Sides, others.hash(d+1))
		set = same
	}
}

// slowCheck takes M4 sentence by sentence.
func slowCheck(p api.Lookup, key, value string, there bool, root string) api.Errno {
	own := hashOf(key)
	switch {
	case len(key) > 200, there && len(value) > 1000:
		return api.ErrTrieLong
	case len(p.Sides) > 256:
		return api.ErrTrieForm
	}
	for _, side := range p.Sides {
		if len(side) != 32 {
			return api.ErrTrieForm
		}
	}
	switch {
	case p.There && (len(p.Key) != 32 || len(p.Value) != 32 || bitsOf(p.Key)[:len(p.Sides)] != bitsOf(own)[:len(p.Sides)]),
		!p.There && (p.Key != "" || p.Value != ""),
		there && !(p.There && p.Key == own && p.Value == hashOf(value)),
		!there && p.There && p.Key == own:
		return api.ErrTrieForm
	case slowRoot(p, own) != root:
		return api.ErrTrieRoot
	}
	return api.OK
}

// slowRoot is what follows of a lookup whose digests have their lengths.
func slowRoot(p api.Lookup, own string) string {
	it, bits := noughts, bitsOf(own)
	if p.There {
		it = hashOf("\x02", p.Key, p.Value)
	}
	for d := len(p.Sides) - 1; d >= 0; d-- {
		if bits[d] == '0' {
			it = hashOf("\x03", it, p.Sides[d])
		} else {
			it = hashOf("\x03", p.Sides[d], it)
		}
	}
	return it
}

// played is a map, and the model that it is held to, call by call.
type played struct {
	*testing.T
	m     *trie.Map
	model model
}

func made(t *testing.T) *played {
	t.Helper()
	return &played{t, trie.New(), nil}
}

func (p *played) set(key, value string) api.Errno {
	p.Helper()
	e := p.m.Set(key, value)
	if want := p.model.set(key, value); e != want {
		p.Fatalf("M1: Set of %d and %d bytes: %d, want %d", len(key), len(value), e, want)
	}
	return e
}

func (p *played) remove(key string) bool {
	p.Helper()
	was, e := p.m.Remove(key)
	if want, wantE := p.model.remove(key); was != want || e != wantE {
		p.Fatalf("M1: Remove(%q): %t, %d, want %t, %d", key, was, e, want, wantE)
	}
	return was
}

func (p *played) clone() *played { return &played{p.T, p.m.Clone(), slices.Clone(p.model)} }

// is holds what there is to the model, by a name of what was done.
func (p *played) is(name string) {
	p.Helper()
	if n := p.m.Len(); n != len(p.model) {
		p.Fatalf("%s: M2: Len: %d, want %d", name, n, len(p.model))
	}
	if l := p.m.Keys(); !slices.Equal(l, p.model.keys()) {
		p.Fatalf("%s: M2: Keys: %q, want %q", name, l, p.model.keys())
	}
	if r := p.m.Root(); r != p.model.hash(0) {
		p.Fatalf("%s: M2: Root: %x, want %x", name, r, p.model.hash(0))
	}
}

func same(a, b api.Lookup) bool {
	return slices.Equal(a.Sides, b.Sides) && a.There == b.There && a.Key == b.Key && a.Value == b.Value
}

// tells holds what is told of a key to the model.
func (p *played) tells(key string) api.Lookup {
	p.Helper()
	s, there := p.m.Get(key)
	if want, wantThere := p.model.get(key); s != want || there != wantThere {
		p.Fatalf("M2: Get(%q): %q, %t, want %q, %t", key, s, there, want, wantThere)
	}
	l, e := p.m.Prove(key)
	if want, wantE := p.model.prove(key); !same(l, want) || e != wantE {
		p.Fatalf("M3: Prove(%q): %+v, %d, want %+v, %d", key, l, e, want, wantE)
	}
	return l
}

// checked holds Check to the words.
func checked(t *testing.T, name string, p api.Lookup, key, value string, there bool, root string) api.Errno {
	t.Helper()
	e := trie.Check(p, key, value, there, root)
	if want := slowCheck(p, key, value, there, root); e != want {
		t.Fatalf("M4: %s: %d, want %d", name, e, want)
	}
	return e
}
