package trie_test

import (
	"fmt"
	"math/rand"
	"slices"
	"strings"
	"testing"

	"scrivener/api"
	"scrivener/trie"
)

// said is all that Check is given.
type said struct {
	p          api.Lookup
	key, value string
	there      bool
	root       string
}

func (s said) checked(t *testing.T, name string) api.Errno {
	t.Helper()
	return checked(t, name, s.p, s.key, s.value, s.there, s.root)
}

func (s said) copied() said {
	s.p.Sides = slices.Clone(s.p.Sides)
	return s
}

// proved is what a map says of a key.
func (p *played) proved(key string) said {
	p.Helper()
	value, there := p.m.Get(key)
	return said{p.tells(key), key, value, there, p.m.Root()}
}

// turned is a text with another bit.
func turned(s string, bit int) string {
	b := []byte(s)
	b[bit/8] ^= 0x80 >> (bit % 8)
	return string(b)
}

func anyHash(r *rand.Rand) string { return hashOf(fmt.Sprint(r.Int())) }

// sizes are texts of lengths about that of a hash.
func sizes() []string {
	var l []string
	for _, n := range []int{0, 1, 31, 33, 63, 64, 65, 288, 65536 + 32} {
		l = append(l, strings.Repeat("s", n))
	}
	return l
}

func TestCheckOfProved(t *testing.T) {
	for _, n := range []int{0, 1, 2, 3, 4, 7, 30} {
		p := numbered(t, n)
		for i := range n + 20 {
			s := p.proved(fmt.Sprint("key ", i))
			if e := s.checked(t, "what was proved"); e != api.OK || s.there != (i < n) {
				t.Fatalf("M4: of %d keys, the key %d: %d", n, i, e)
			}
			not := s
			not.there = !s.there
			if e := not.checked(t, "the other way"); e != api.ErrTrieForm {
				t.Errorf("M4: of %d keys, the key %d the other way: %d", n, i, e)
			}
			for _, value := range []string{"", "value", s.value + "0", strings.Repeat("v", 1000), strings.Repeat("v", 1001)} {
				not := s
				not.value = value
				want := api.OK // of a key that is not there the value is not looked at
				switch {
				case s.there && len(value) > 1000:
					want = api.ErrTrieLong
				case s.there:
					want = api.ErrTrieForm
				}
				if e := not.checked(t, "another value"); e != want {
					t.Errorf("M4: of %d keys, the key %d with a value of %d bytes: %d, want %d", n, i, len(value), e, want)
				}
			}
			for _, root := range append(sizes(), turned(s.root, 0), turned(s.root, 255), s.root[:31], s.root+"\x00") {
				not := s
				not.root = root
				if e := not.checked(t, "another root"); e != api.ErrTrieRoot {
					t.Errorf("M4: of %d keys, the key %d under the root %x: %d", n, i, root, e)
				}
			}
		}
	}
}

// A lookup of one key says nothing of another one, but that it is not there, where both end at one place.
func TestCheckOfOthers(t *testing.T) {
	p := numbered(t, 12)
	count := map[api.Errno]int{}
	for i := range 24 {
		s := p.proved(fmt.Sprint("key ", i))
		for j := range 24 {
			for _, there := range []bool{true, false} {
				of := s
				of.key, of.there = fmt.Sprint("key ", j), there
				e := of.checked(t, "another key")
				count[e]++
				if _, is := p.m.Get(of.key); e == api.OK && is != there {
					t.Errorf("M4: the lookup of %q is accepted for %q, there: %t", s.key, of.key, there)
				}
			}
		}
	}
	for _, e := range []api.Errno{api.OK, api.ErrTrieForm, api.ErrTrieRoot} {
		if count[e] < 20 {
			t.Errorf("M4: %d came only %d times", e, count[e])
		}
	}
}

// deepened is what a lookup of so many sides says, which leads to its root; it ends at a leaf whose digest parts from the key's at a bit, at none (256), or at nothing (below nought).
func deepened(r *rand.Rand, key string, sides, parts int) said {
	s := said{key: key, value: "value"}
	for range sides {
		s.p.Sides = append(s.p.Sides, anyHash(r))
	}
	if parts >= 0 {
		s.p.There, s.p.Key, s.p.Value = true, hashOf(key), hashOf(s.value)
		if parts < 256 {
			s.p.Key = turned(s.p.Key, parts)
		}
	}
	s.there = parts == 256
	if sides <= 256 {
		s.root = slowRoot(s.p, hashOf(key))
	}
	return s
}

// Of lookups of all depths, whether a map ever told them or not, the form is all that is asked for, and where they lead.
func TestCheckOfDepths(t *testing.T) {
	r := rand.New(rand.NewSource(2))
	for sides := range 260 {
		for _, parts := range []int{-1, 0, sides - 2, sides - 1, sides, sides + 1, 254, 255, 256} {
			s := deepened(r, "key", sides, min(parts, 256))
			want := api.OK
			if sides > 256 || parts >= 0 && parts < min(sides, 256) {
				want = api.ErrTrieForm
			}
			if e := s.checked(t, "a depth"); e != want {
				t.Errorf("M4: %d sides, parted at %d: %d, want %d", sides, parts, e, want)
			}
		}
	}
}

// Each bit of the digest at the end counts above the last side, and none below it, as long as the key's is another one.
func TestCheckOfBits(t *testing.T) {
	r := rand.New(rand.NewSource(3))
	for _, sides := range []int{0, 1, 7, 8, 9, 100, 128, 255, 256} {
		for bit := range 256 {
			want := api.OK
			if bit < sides {
				want = api.ErrTrieForm
			}
			s := deepened(r, "key", sides, bit)
			if e := s.checked(t, "a bit"); e != want {
				t.Errorf("M4: %d sides, the bit %d is another one: %d, want %d", sides, bit, e, want)
			}
			s.there = true
			if e := s.checked(t, "a bit, there"); e != api.ErrTrieForm {
				t.Errorf("M4: %d sides, the bit %d is another one, there: %d", sides, bit, e)
			}
		}
	}
}

// Each side counts, and the order in which they stand.
func TestCheckOfSides(t *testing.T) {
	p := numbered(t, 40)
	for _, key := range []string{"key 1", "key 2", "key 39", "key 40", "key 41", "key 42"} {
		s := p.proved(key)
		for i := range s.p.Sides {
			for _, side := range append(sizes(), turned(s.p.Sides[i], 0), turned(s.p.Sides[i], 255)) {
				not := s.copied()
				not.p.Sides[i] = side
				want := api.ErrTrieForm
				if len(side) == 32 {
					want = api.ErrTrieRoot
				}
				if e := not.checked(t, "another side"); e != want {
					t.Errorf("M4: %q: the side %d of %d bytes: %d, want %d", key, i, len(side), e, want)
				}
			}
			for _, sides := range [][]string{slices.Delete(slices.Clone(s.p.Sides), i, i+1), slices.Insert(slices.Clone(s.p.Sides), i, noughts)} {
				not := s
				not.p.Sides = sides
				if e := not.checked(t, "a side less or more"); e == api.OK {
					t.Errorf("M4: %q: %d sides are accepted, too", key, len(sides))
				}
			}
		}
		turn := s.copied()
		slices.Reverse(turn.p.Sides)
		if e := turn.checked(t, "from below"); e != api.ErrTrieRoot {
			t.Errorf("M4: %q: the sides from below: %d", key, e)
		}
	}
}

// What stands at the end is a leaf of two digests, or nothing at all.
func TestCheckOfEnds(t *testing.T) {
	p := numbered(t, 10)
	for i := range 30 {
		s := p.proved(fmt.Sprint("key ", i))
		for _, text := range sizes() {
			for _, change := range []func(*api.Lookup){
				func(p *api.Lookup) { p.Key = text },
				func(p *api.Lookup) { p.Value = text },
				func(p *api.Lookup) { p.Key, p.Value = text, text },
			} {
				not := s.copied()
				change(&not.p)
				if same(not.p, s.p) {
					continue
				}
				if e := not.checked(t, "another end"); e != api.ErrTrieForm {
					t.Errorf("M4: key %d: an end of %d and %d bytes: %d", i, len(not.p.Key), len(not.p.Value), e)
				}
			}
		}
		not := s.copied()
		not.p.There = !s.p.There
		if e := not.checked(t, "there or not"); e != api.ErrTrieForm {
			t.Errorf("M4: key %d: There is %t: %d", i, not.p.There, e)
		}
		if !s.there && s.p.There {
			not := s.copied()
			not.p.Value = turned(s.p.Value, 77)
			if e := not.checked(t, "another value at the end"); e != api.ErrTrieRoot {
				t.Errorf("M4: key %d: another value at the end: %d", i, e)
			}
		}
	}
}

// faults are what may be wrong, those of each error behind those of the errors that are told ahead of it.
func faults() []struct {
	e     api.Errno
	spoil func(*said)
} {
	return []struct {
		e     api.Errno
		spoil func(*said)
	}{
		{api.ErrTrieLong, func(s *said) { s.key = strings.Repeat("k", 201) }},
		{api.ErrTrieLong, func(s *said) { s.there, s.value = true, strings.Repeat("v", 1001) }},
		{api.ErrTrieForm, func(s *said) { s.p.Sides = append(s.p.Sides, slices.Repeat([]string{noughts}, 257)...) }},
		{api.ErrTrieForm, func(s *said) { s.p.Sides[0] = s.p.Sides[0][1:] }},
		{api.ErrTrieForm, func(s *said) { s.p.Sides[len(s.p.Sides)-1] += "s" }},
		{api.ErrTrieForm, func(s *said) { s.p.There, s.p.Key, s.p.Value = true, turned(hashOf(s.key), 0), noughts }},
		{api.ErrTrieForm, func(s *said) { s.p.There, s.p.Key = true, noughts[1:] }},
		{api.ErrTrieForm, func(s *said) { s.p.There, s.p.Value = true, noughts+"s" }},
		{api.ErrTrieForm, func(s *said) { s.p.There, s.p.Key = false, hashOf(s.key) }},
		{api.ErrTrieForm, func(s *said) { s.p.There, s.p.Value = false, noughts }},
		{api.ErrTrieForm, func(s *said) { s.there, s.value = true, "another" }},
		{api.ErrTrieRoot, func(s *said) { s.root = hashOf(s.root) }},
		{api.ErrTrieRoot, func(s *said) { s.root = "" }},
	}
}

// Of each two faults, and of all together, the one is told that the promise names first.
func TestOrderOfErrors(t *testing.T) {
	p := numbered(t, 10)
	for _, key := range []string{"key 1", "key 10", "key 11", "key 12"} {
		for i, one := range faults() {
			for j, two := range faults()[i:] {
				s := p.proved(key).copied()
				if j > 0 {
					two.spoil(&s)
				}
				one.spoil(&s)
				if e := s.checked(t, "two faults"); e != one.e {
					t.Errorf("M4: %q: the faults %d and %d: %d, want %d", key, i, i+j, e, one.e)
				}
			}
		}
	}
	s := said{p: api.Lookup{Sides: []string{"s"}, Key: "k"}, key: strings.Repeat("k", 201), value: strings.Repeat("v", 1001), there: true}
	for _, e := range []api.Errno{api.ErrTrieLong, api.ErrTrieLong, api.ErrTrieForm, api.ErrTrieForm, api.ErrTrieRoot, api.OK} {
		if is := s.checked(t, "all faults"); is != e {
			t.Errorf("M4: of %+v: %d, want %d", s, is, e)
		}
		switch {
		case len(s.key) > 200:
			s.key = "k"
		case len(s.value) > 1000 && s.there:
			s.value, s.there = "v", false
		case len(s.p.Sides) > 0:
			s.p.Sides = nil
		case s.p.Key != "":
			s.p.Key = ""
		default:
			s.root = noughts
		}
	}
}

// chance is anything that Check may be given, mostly near to what it accepts.
func chance(r *rand.Rand, p *played, keys []string) said {
	s := p.proved(keys[r.Intn(len(keys))]).copied()
	texts := append(sizes(), noughts, anyHash(r), s.root, hashOf(s.key), hashOf(s.value))
	any := func() string { return texts[r.Intn(len(texts))] }
	for range r.Intn(4) {
		switch r.Intn(10) {
		case 0:
			s.key = keys[r.Intn(len(keys))]
		case 1:
			s.value = strings.Repeat("v", r.Intn(3)*500+r.Intn(2))
		case 2:
			s.there = !s.there
		case 3:
			s.p.There = !s.p.There
		case 4:
			s.p.Key = any()
		case 5:
			s.p.Value = any()
		case 6:
			s.p.Key, s.p.Value = "", ""
		case 7:
			s.p.Sides = slices.Insert(s.p.Sides, r.Intn(len(s.p.Sides)+1), any())
		case 8:
			if len(s.p.Sides) > 0 {
				s.p.Sides = s.p.Sides[:r.Intn(len(s.p.Sides))]
			}
		case 9:
			s.root = any()
		}
	}
	if !slices.ContainsFunc(s.p.Sides, func(side string) bool { return len(side) != 32 }) && len(s.p.Sides) <= 256 && r.Intn(3) == 0 {
		s.root = slowRoot(s.p, hashOf(s.key))
	}
	return s
}

func TestCheckOfAny(t *testing.T) {
	r := rand.New(rand.NewSource(4))
	keys := []string{"", "none", twin, other, third, strings.Repeat("k", 200), strings.Repeat("k", 201)}
	for i := range 30 {
		keys = append(keys, fmt.Sprint("key ", i))
	}
	count := map[api.Errno]int{}
	for range 40 {
		p := numbered(t, r.Intn(20))
		for range r.Intn(4) {
			p.set(keys[r.Intn(6)], "v")
		}
		for range 250 {
			count[chance(r, p, keys).checked(t, "any")]++
		}
	}
	for _, e := range []api.Errno{api.OK, api.ErrTrieLong, api.ErrTrieForm, api.ErrTrieRoot} {
		if count[e] < 200 {
			t.Errorf("M4: %d came only %d times", e, count[e])
		}
	}
}

// The zero lookup is that of no keys.
func TestCheckOfNothing(t *testing.T) {
	for _, key := range []string{"", "a", strings.Repeat("k", 200)} {
		if e := trie.Check(api.Lookup{}, key, strings.Repeat("v", 5000), false, noughts); e != api.OK {
			t.Errorf("M4: nothing of %q: %d", key, e)
		}
		if e := trie.Check(api.Lookup{}, key, "", true, noughts); e != api.ErrTrieForm {
			t.Errorf("M4: nothing of %q, there: %d", key, e)
		}
		if e := trie.Check(api.Lookup{}, key, "", false, ""); e != api.ErrTrieRoot {
			t.Errorf("M4: nothing of %q, under no root: %d", key, e)
		}
	}
}
