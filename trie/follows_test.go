package trie_test

import (
	"fmt"
	"maps"
	"math/rand"
	"slices"
	"testing"

	"scrivener/api"
	"scrivener/trie"
)

// What follows: M6, and with it P8 of the whole. Nothing here is taken from the model.

// built is a map of some keys and values, come to by chance: keys are set in any order, with other values ahead of their own, and others come and go; now and then a clone goes on.
func built(t *testing.T, r *rand.Rand, values map[string]string, gone []string) *trie.Map {
	t.Helper()
	m := trie.New()
	gone = gone[:r.Intn(len(gone)+1)]
	var rest []string
	for _, key := range slices.Sorted(maps.Keys(values)) {
		for range 1 + r.Intn(2) {
			rest = append(rest, key)
		}
	}
	r.Shuffle(len(rest), func(i, j int) { rest[i], rest[j] = rest[j], rest[i] })
	for i, key := range rest {
		value := values[key]
		if slices.Contains(rest[i+1:], key) {
			value += "!"
		}
		set(t, m, key, value)
		if i < len(gone) {
			set(t, m, gone[i], "gone")
		}
		switch r.Intn(6) {
		case 0:
			m.Remove(rest[r.Intn(i+1)])
			for _, key := range rest[:i+1] {
				if !slices.Contains(rest[i+1:], key) {
					set(t, m, key, values[key])
				}
			}
		case 1:
			m = m.Clone()
		}
	}
	for _, i := range r.Perm(len(gone)) {
		m.Remove(gone[i])
	}
	return m
}

func set(t *testing.T, m *trie.Map, key, value string) {
	t.Helper()
	if e := m.Set(key, value); e != api.OK {
		t.Fatalf("M1: Set(%q, %q): %d", key, value, e)
	}
}

// alike tells that two maps of the same keys and values are not alike.
func alike(t *testing.T, a, b *trie.Map, keys []string) {
	t.Helper()
	if a.Root() != b.Root() || a.Len() != b.Len() {
		t.Fatalf("M6: the same keys and values have the roots %x and %x", a.Root(), b.Root())
	}
	for _, key := range keys {
		p, _ := a.Prove(key)
		if q, _ := b.Prove(key); !same(p, q) {
			t.Fatalf("M6: of the same keys and values %q has unlike lookups", key)
		}
	}
}

// accepted holds what is told of a key to its root.
func accepted(t *testing.T, m *trie.Map, key string) {
	t.Helper()
	p, e := m.Prove(key)
	value, there := m.Get(key)
	if e != api.OK || trie.Check(p, key, value, there, m.Root()) != api.OK {
		t.Fatalf("M6: what is proved of %q, there: %t, is not accepted", key, there)
	}
	for _, root := range []string{turned(m.Root(), 0), turned(m.Root(), 255), hashOf(key)} {
		if root != m.Root() && trie.Check(p, key, value, there, root) == api.OK {
			t.Fatalf("M6: what is proved of %q, there: %t, is accepted under another root", key, there)
		}
	}
}

// unlike are up to so many keys, no two of one digest: over the weak digest there may be fewer.
func unlike(n int) []string {
	var keys []string
	digests := map[string]int{}
	for i := 0; i < 300 && len(keys) < n; i++ {
		key := fmt.Sprint("key ", i)
		if digests[hashOf(key)]++; digests[hashOf(key)] == 1 {
			keys = append(keys, key)
		}
	}
	return keys
}

func TestAnyWay(t *testing.T) {
	r := rand.New(rand.NewSource(5))
	keys := unlike(90)
	for n := range min(len(keys)+1, 40) {
		values := map[string]string{}
		for _, key := range keys[:n] {
			values[key] = fmt.Sprint("value ", r.Intn(3))
		}
		first := built(t, r, values, keys[n:])
		for range 4 {
			next := built(t, r, values, keys[n:])
			alike(t, first, next, keys)
		}
		for _, key := range keys {
			accepted(t, first, key)
		}
	}
}

// small are keys that part at once, and far down.
func small() []string { return []string{twin, other, third, "a", "b"} }

// of is the map of a number: whose digits of base 3 tell of each of the small keys whether it is not there, or which of two values it has.
func of(t *testing.T, number int) *trie.Map {
	t.Helper()
	m := trie.New()
	for _, key := range small() {
		if number%3 > 0 {
			set(t, m, key, fmt.Sprint(number%3))
		}
		number /= 3
	}
	return m
}

// Of all maps of a few keys, each is come to from each of its neighbours; no two of them have one root.
func TestAllNeighbours(t *testing.T) {
	numbers := map[string]int{}
	var all []*trie.Map
	for i := range 243 {
		m := of(t, i)
		if j, ok := numbers[m.Root()]; ok {
			t.Fatalf("M6: the maps %d and %d have one root", i, j)
		}
		numbers[m.Root()] = i
		all = append(all, m)
	}
	for i, m := range all {
		weight := 1
		for _, key := range small() {
			has := i / weight % 3
			for digit := range 3 {
				c := m.Clone()
				if digit > 0 {
					set(t, c, key, fmt.Sprint(digit))
				} else if was, e := c.Remove(key); was != (has > 0) || e != api.OK {
					t.Fatalf("M1: of the map %d: Remove(%q): %t, %d", i, key, was, e)
				}
				alike(t, c, all[i+(digit-has)*weight], small())
			}
			weight *= 3
		}
		alike(t, m, of(t, i), small())
		for _, key := range append(small(), "c", "d", "e") {
			accepted(t, m, key)
		}
	}
}

func TestSetOfTheSame(t *testing.T) {
	r := rand.New(rand.NewSource(6))
	for n := range 50 {
		m := numbered(t, n).m
		root := m.Root()
		for range 20 {
			if n > 0 {
				i := r.Intn(n)
				set(t, m, fmt.Sprint("key ", i), fmt.Sprint("value ", i*i))
			}
			if m.Root() != root || m.Len() != n {
				t.Fatalf("M6: of %d keys: Set of what was there changes the root", n)
			}
		}
	}
}

func TestSetTakenBack(t *testing.T) {
	for n := range 60 {
		m := numbered(t, n).m
		was := m.Clone()
		for i := range 30 {
			key := fmt.Sprint("further ", i)
			set(t, m, key, "v")
			if m.Root() == was.Root() || m.Len() != n+1 {
				t.Fatalf("M6: of %d keys: a further one does not change the root", n)
			}
			m.Remove(key)
			alike(t, m, was, []string{key, "key 0", "key 1"})
		}
	}
}

// Whatever a lookup is, it is accepted for nothing that is not so: what other maps tell, and what is made of pieces of these.
func TestNothingFalse(t *testing.T) {
	r := rand.New(rand.NewSource(8))
	var all []*trie.Map
	var lookups []api.Lookup
	keys := append(small(), "c", "d")
	for i := range 243 {
		all = append(all, of(t, i))
		for _, key := range keys {
			p, _ := all[i].Prove(key)
			lookups = append(lookups, p)
		}
	}
	so := 0
	for range 60000 {
		m, key := all[r.Intn(len(all))], keys[r.Intn(len(keys))]
		p, q := lookups[r.Intn(len(lookups))], lookups[r.Intn(len(lookups))]
		if r.Intn(2) == 0 {
			p, _ = m.Prove(keys[r.Intn(len(keys))])
		}
		switch r.Intn(5) {
		case 0:
			p.There, p.Key, p.Value = q.There, q.Key, q.Value
		case 1:
			p.Sides = q.Sides
		case 2:
			p.There, p.Key, p.Value = true, hashOf(key), hashOf(fmt.Sprint(r.Intn(3)))
		case 3:
			p.Sides = p.Sides[:r.Intn(len(p.Sides)+1)]
		}
		value, there := fmt.Sprint(1+r.Intn(2)), r.Intn(2) == 0
		if trie.Check(p, key, value, there, m.Root()) != api.OK {
			continue
		}
		so++
		if s, is := m.Get(key); is != there || is && s != value {
			t.Fatalf("P8: %q, there: %t, with the value %q, is accepted, but it has %q: %t", key, there, value, s, is)
		}
	}
	if so < 1000 {
		t.Errorf("P8: only %d were accepted", so)
	}
}
