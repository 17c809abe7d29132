package trie_test

import (
	"encoding/hex"
	"fmt"
	"math/rand"
	"slices"
	"strings"
	"testing"

	"scrivener/api"
	"scrivener/trie"
)

// Two keys whose digests have the first 42 bits in common, and one that has the first 21 in common with them.
const (
	twin  = "2880214"
	other = "2685089"
	third = "1104082"
)

func unhex(t *testing.T, s string) string {
	t.Helper()
	b, err := hex.DecodeString(s)
	if err != nil {
		t.Fatal(err)
	}
	return string(b)
}

// numbered has so many keys, whose values are the squares of their numbers.
func numbered(t *testing.T, n int) *played {
	t.Helper()
	p := made(t)
	for i := range n {
		p.set(fmt.Sprint("key ", i), fmt.Sprint("value ", i*i))
	}
	return p
}

func leafHash(key, value string) string { return hashOf("\x02", hashOf(key), hashOf(value)) }

func TestFirstExample(t *testing.T) {
	m := trie.New()
	if m.Root() != noughts {
		t.Errorf("example 1: the root of no keys: %x", m.Root())
	}
	if p, e := m.Prove("a"); !same(p, api.Lookup{}) || e != api.OK {
		t.Errorf("example 1: no keys: Prove(a): %+v, %d", p, e)
	}
	if e := m.Set("a", "1"); e != api.OK || m.Root() != leafHash("a", "1") {
		t.Errorf("example 1: Set: %d, the root %x", e, m.Root())
	}
	leaf := api.Lookup{There: true, Key: hashOf("a"), Value: hashOf("1")}
	for _, key := range []string{"a", "b"} {
		if p, e := m.Prove(key); !same(p, leaf) || e != api.OK {
			t.Errorf("example 1: Prove(%s): %+v, %d", key, p, e)
		}
	}
	if e := trie.Check(leaf, "b", "", false, m.Root()); e != api.OK {
		t.Errorf("example 1: Check of b: %d", e)
	}
	if e := trie.Check(leaf, "a", "", false, m.Root()); e != api.ErrTrieForm {
		t.Errorf("example 1: Check of a, not there: %d", e)
	}
}

func TestSecondExample(t *testing.T) {
	m := trie.New()
	m.Set("a", "1")
	m.Set("b", "2")
	if m.Root() != hashOf("\x03", leafHash("b", "2"), leafHash("a", "1")) {
		t.Errorf("example 2: the root: %x", m.Root())
	}
	want := api.Lookup{Sides: []string{leafHash("b", "2")}, There: true, Key: hashOf("a"), Value: hashOf("1")}
	if p, e := m.Prove("a"); !same(p, want) || e != api.OK {
		t.Errorf("example 2: Prove(a): %+v, %d", p, e)
	}
}

func TestNew(t *testing.T) {
	var zero trie.Map
	for name, m := range map[string]*trie.Map{"New": trie.New(), "the zero value": &zero, "a clone of New": trie.New().Clone()} {
		p := &played{t, m, nil}
		p.is(name)
		for _, key := range []string{"", "a", strings.Repeat("k", 200), strings.Repeat("k", 201)} {
			p.tells(key)
			p.remove(key)
		}
		p.is(name)
		p.set("a", "1")
		p.is(name)
	}
}

// Of no map at all the calls answer as one without keys does, which takes none.
func TestNoMap(t *testing.T) {
	var m *trie.Map
	p := &played{t, m, nil}
	for range 2 {
		p.is("no map")
		for _, key := range []string{"", "a", strings.Repeat("k", 200), strings.Repeat("k", 201)} {
			p.tells(key)
			p.remove(key)
		}
		if e := m.Set("a", "1"); e != api.ErrArg {
			t.Errorf("R3: Set of no map: %d", e)
		}
		if e := m.Set("a", strings.Repeat("v", 1001)); e != api.ErrTrieLong {
			t.Errorf("M1: Set of no map, too long: %d", e)
		}
	}
	c := &played{t, m.Clone(), nil}
	c.is("a clone of no map")
	c.set("a", "1")
	c.is("a clone of no map")
}

// Roots that were worked out by another program.
func TestRootsFromElsewhere(t *testing.T) {
	roots := map[int]string{
		0:    "0000000000000000000000000000000000000000000000000000000000000000",
		1:    "d8106df8a7cc5c961a6371c0f70fe16e4c3c123a9c1459aed7f9ae99876ac3ef",
		2:    "c64ab450c0cd21d1fe47df1cb697ec7bd5c7c8c9ee1ccd17d4002d16a6d9c24d",
		3:    "72c16307332d7444cd2b295ed38cd9aa7e8e493438cb4a9e78c140b1b1f7df0b",
		5:    "803915e4f04deccb0e3cd5f0528f2b503e832581b5dc700ccdccce1b0c61944d",
		20:   "88c7c73a9e2d61f5c8af6b56369277453d502a278037009a5557757cf5d38121",
		100:  "9c3e3bb9bda1c13e8840ee3e5834019b9e19af3669449b7cde4a777f7740f7e8",
		1000: "431b7563f94979de1394f794f04ecf9b0d0d55617ec2697cecb3ab7d546d87e3",
	}
	m := trie.New()
	for n := range 1001 {
		if s, ok := roots[n]; ok && m.Root() != unhex(t, s) {
			t.Errorf("M2: the root of %d keys: %x, want %s", n, m.Root(), s)
		}
		m.Set(fmt.Sprint("key ", n), fmt.Sprint("value ", n*n))
	}
	m = trie.New()
	for _, c := range []struct{ key, value, root string }{
		{"", "", "a76d9fd800d7f9789d21f6d71cfa4f251f184269dfa93c8d3a7accaca7c46ed4"},
		{twin, "1", ""},
		{other, "2", ""},
	} {
		if m.Set(c.key, c.value); c.root != "" && m.Root() != unhex(t, c.root) {
			t.Errorf("M2: behind Set of %q: %x, want %s", c.key, m.Root(), c.root)
		}
	}
	m.Remove("")
	for _, c := range []struct{ do, root string }{
		{"", "54741583f45ba79c808474f34ed0c9d361d3c7bcbf6186644b2dc28f917aaf6a"},
		{"+" + third, "d11eb96c1368bc99cea226f356ea38c460a65d0d334ac73a54cd460094748bc3"},
		{"-" + other, "fe48e4c46aa5e622a6fb1e9e5b62924dda632189b79564c7a6f6dea6fa57f1e2"},
	} {
		if key, ok := strings.CutPrefix(c.do, "+"); ok {
			m.Set(key, "3")
		} else if key, ok := strings.CutPrefix(c.do, "-"); ok {
			m.Remove(key)
		}
		if m.Root() != unhex(t, c.root) {
			t.Errorf("M2: behind %q: %x, want %s", c.do, m.Root(), c.root)
		}
	}
	m = trie.New()
	m.Set(strings.Repeat("\x00", 200), strings.Repeat("\x00", 1000))
	m.Set("\xff\xfe", "\x00")
	if want := unhex(t, "445915469b88078c35f61a2e5291eda50062a3557fd04d6d3067e16a293c2e93"); m.Root() != want {
		t.Errorf("M2: odd bytes: %x, want %x", m.Root(), want)
	}
}

// Lookups that were worked out by another program: what the sides of a key's way begin with, their digest, and what stands at its end.
func TestLookupsFromElsewhere(t *testing.T) {
	p := numbered(t, 20)
	for _, c := range []struct {
		key, sides, digest string
		end                int // the number of the key there, below nought if there is none
	}{
		{"key 7", "926a33f5 fd879a29 c05cd0d1 e585136d 00000000 0d0bcdff c9233935", "429b95a86401f24ce2cd7cbe06cd405fd44023b88a18f5d7e815ff680ffc3494", 7},
		{"key 20", "926a33f5 fd879a29 1490554b d97826d3 19bc4adc", "174d48231102aec28acf9c2305da323af514974a0bc7251a23209680434dfab0", -1},
		{"key 22", "d2bcc792 00c08b7c 8f673363", "c64ae8b58e9296e4dd4c8400d9bba2c57dabda22dc189e4d32129aed2ba869d5", -1},
		{"key 23", "926a33f5 fd7104e0 5bfb8b05 00000000 604d8cad", "c091fb00e7a0b7d949d8851ff6d974cb2c653883dcc65f3d1184f9efa0ce9919", 15},
		{"none", "926a33f5 fd879a29 1490554b b25a6526 9122be80", "7d83a59b24481462331dfacde58a92ba3867875f5321f04d9ca09f6871413011", -1},
		{"", "d2bcc792 fc537d72", "e85533f845cce7bcd15de6afc3eeaa0b4ecfcc787d6d3f97e7ed025850716104", 13},
	} {
		l := p.tells(c.key)
		var begin []string
		for _, side := range l.Sides {
			begin = append(begin, fmt.Sprintf("%x", side[:4]))
		}
		if strings.Join(begin, " ") != c.sides || hashOf(l.Sides...) != unhex(t, c.digest) {
			t.Errorf("M3: the sides of %q begin with %q, want %s", c.key, begin, c.sides)
		}
		want := api.Lookup{Sides: l.Sides}
		if c.end >= 0 {
			want = api.Lookup{Sides: l.Sides, There: true, Key: hashOf(fmt.Sprint("key ", c.end)), Value: hashOf(fmt.Sprint("value ", c.end*c.end))}
		}
		if !same(l, want) {
			t.Errorf("M3: %q: at the end %+v, want %+v", c.key, l, want)
		}
	}
}

// odd are texts of all kinds, none a beginning of which is missing.
func odd() []string {
	return []string{"", "\x00", "\x00\x00", "a", "a\x00", "A", "ab", " a", "\xff", "\xff\xfe", "é", "key", strings.Repeat("k", 199), strings.Repeat("k", 200)}
}

func TestSet(t *testing.T) {
	p := made(t)
	for i, key := range odd() {
		p.tells(key)
		p.set(key, odd()[len(odd())-1-i])
		p.tells(key)
		p.is("Set")
	}
	for _, value := range []string{"", "v", strings.Repeat("v", 999), strings.Repeat("v", 1000), strings.Repeat("\x00", 1000)} {
		for _, key := range odd() {
			p.set(key, value)
			p.tells(key)
		}
		p.is("Set of another value")
	}
}

// What is too long changes nothing, whatever else it is.
func TestTooLong(t *testing.T) {
	p := made(t)
	for range 3 {
		for _, n := range []int{201, 202, 255, 256, 257, 456, 1001, 65536, 1 << 20} {
			long := strings.Repeat("k", n)
			if e := p.set(long, "v"); e != api.ErrTrieLong {
				t.Errorf("M1: Set of a key of %d bytes: %d", n, e)
			}
			if was, e := p.m.Remove(long); was || e != api.ErrTrieLong {
				t.Errorf("M1: Remove of %d bytes: %t, %d", n, was, e)
			}
			if l := p.tells(long); !same(l, api.Lookup{}) {
				t.Errorf("M3: Prove of %d bytes: %+v", n, l)
			}
		}
		for _, n := range []int{1001, 1002, 1256, 65536, 1 << 20} {
			for _, key := range []string{"", "k", strings.Repeat("k", 200), strings.Repeat("k", 201)} {
				if e := p.set(key, strings.Repeat("v", n)); e != api.ErrTrieLong {
					t.Errorf("M1: Set of a value of %d bytes: %d", n, e)
				}
				p.tells(key)
			}
		}
		p.is("too long")
		p.set(strings.Repeat("k", 200), strings.Repeat("v", 1000))
		p.set("k", "v")
	}
}

func TestRemove(t *testing.T) {
	p := numbered(t, 40)
	r := rand.New(rand.NewSource(1))
	for _, i := range r.Perm(60) {
		key := fmt.Sprint("key ", i)
		if was := p.remove(key); was != (i < 40) {
			t.Errorf("M1: Remove(%q): %t", key, was)
		}
		p.is("Remove")
		p.tells(key)
		if p.remove(key) {
			t.Errorf("M1: Remove(%q) again: it was there", key)
		}
		p.is("Remove again")
	}
	if p.m.Root() != noughts {
		t.Errorf("M1: all are removed: %x", p.m.Root())
	}
	p.set("a", "1")
	p.is("behind all")
}

// A key keeps its place among others, whatever value it is given.
func TestSetAnew(t *testing.T) {
	p := numbered(t, 30)
	for i := range 30 {
		was := p.m.Root()
		p.set(fmt.Sprint("key ", i), "another")
		p.is("Set anew")
		if p.m.Root() == was {
			t.Errorf("M2: the root does not hang on the value of key %d", i)
		}
		p.set(fmt.Sprint("key ", i), fmt.Sprint("value ", i*i))
		p.is("Set back")
		if p.m.Root() != was {
			t.Errorf("M6: the root of key %d is another one behind a Set back", i)
		}
	}
}

// Keys that part far down: forks with nothing at the one side come and go.
func TestDeep(t *testing.T) {
	all := []string{twin, other, third, "a", "b"}
	for turn := range 120 {
		p := made(t)
		keys := permuted(all, turn)
		for _, key := range keys {
			p.set(key, "of "+key)
			p.is("deep: Set")
			for _, k := range all {
				p.tells(k)
			}
		}
		if l := p.tells(twin); len(l.Sides) != 43 || l.Sides[30] != noughts {
			t.Errorf("M3: deep: %d sides", len(l.Sides))
		}
		for _, key := range permuted(all, (turn*7+3)%120) {
			p.remove(key)
			p.is("deep: Remove")
			for _, k := range all {
				p.tells(k)
			}
		}
	}
}

// permuted is one of all orders of a list.
func permuted(l []string, number int) []string {
	rest, out := slices.Clone(l), []string(nil)
	for n := len(rest); n > 0; n-- {
		i := number % n
		number /= n
		out, rest = append(out, rest[i]), slices.Delete(rest, i, i+1)
	}
	return out
}

func TestKeys(t *testing.T) {
	p := made(t)
	for _, key := range []string{"b", "", "\xff", "ab", "a", "\x00", "aa", "B", "é", "a\x00", "\x7f", "\x80", "10", "9"} {
		p.set(key, "")
		p.is("Keys")
	}
	want := []string{"", "\x00", "10", "9", "B", "a", "a\x00", "aa", "ab", "b", "\x7f", "\x80", "é", "\xff"}
	if l := p.m.Keys(); !slices.Equal(l, want) {
		t.Errorf("M2: Keys: %q, want %q", l, want)
	}
}

func TestClone(t *testing.T) {
	p := numbered(t, 25)
	a := p.clone()
	b := a.clone()
	for i := range 50 {
		key := fmt.Sprint("key ", i)
		p.remove(key)
		a.set(key, "of a")
		if i%2 == 0 {
			b.remove(key)
		}
		for _, x := range []*played{p, a, b} {
			x.is("M5")
			x.tells(key)
		}
	}
	c := p.clone()
	c.is("M5: a clone of one that was emptied")
	c.set("a", "1")
	p.is("M5: its clone has a key")
}

// kinds are calls of each kind, by chance.
type kinds struct {
	*rand.Rand
	keys int
}

func (r kinds) key() string {
	switch r.Intn(40) {
	case 0:
		return strings.Repeat("k", 199+r.Intn(4))
	case 1:
		return [...]string{twin, other, third}[r.Intn(3)]
	}
	return fmt.Sprint("key ", r.Intn(r.keys))
}

func (r kinds) value() string {
	if r.Intn(40) == 0 {
		return strings.Repeat("v", 998+r.Intn(5))
	}
	return strings.Repeat("v", r.Intn(4))
}

func (r kinds) call(p *played) {
	p.Helper()
	switch r.Intn(5) {
	case 0, 1:
		p.remove(r.key())
	default:
		p.set(r.key(), r.value())
	}
}

// Maps and clones of them, of few keys and of many, called by chance.
func TestAnyCalls(t *testing.T) {
	for seed := range 20 {
		r := kinds{rand.New(rand.NewSource(int64(seed))), 2 + seed*3}
		maps := []*played{made(t), made(t)}
		for range 150 {
			i := r.Intn(len(maps))
			if r.Intn(12) == 0 {
				maps[r.Intn(len(maps))] = maps[i].clone()
			}
			r.call(maps[i])
			maps[i].tells(r.key())
			maps[r.Intn(len(maps))].is("any calls")
			if len(maps) < 4 {
				maps = append(maps, maps[i].clone())
			}
		}
		for _, p := range maps {
			p.is("any calls")
			for range 10 {
				p.tells(r.key())
			}
		}
	}
}

// A greater one, looked at now and then.
func TestMany(t *testing.T) {
	r := kinds{rand.New(rand.NewSource(7)), 1500}
	p := made(t)
	for i := range 2500 {
		r.call(p)
		if i%250 == 249 {
			p.is("many")
			p.tells(r.key())
		}
	}
}
