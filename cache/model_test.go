package cache_test

import (
	"math/big"
	"math/rand"
	"slices"
	"strconv"
	"strings"
	"testing"

	"scrivener/api"
	"scrivener/cache"
)

// The model takes the words as they stand: of each value it keeps how often it was pinned and unpinned since it came, and when it was used last; all sums are worked out anew whenever they are asked for.

type thing struct {
	key, value       string
	pinned, unpinned int
	used             int
}

func (x thing) counts() int { return len(x.key) + len(x.value) }

func (x thing) isPinned() bool { return x.pinned > x.unpinned }

type model struct {
	budget             int
	now                int
	things             []thing // in no order
	found, missed, out int
}

// at is where the thing of a key is; below nought, if it is not there.
func (m *model) at(key string) int {
	return slices.IndexFunc(m.things, func(x thing) bool { return x.key == key })
}

// sum is what those things count of which something holds.
func (m *model) sum(of func(thing) bool) int {
	n := 0
	for _, x := range m.things {
		if of(x) {
			n += x.counts()
		}
	}
	return n
}

// least is where the thing is that was used least lately of those that are not pinned.
func (m *model) least() int {
	at := -1
	for i, x := range m.things {
		if !x.isPinned() && (at < 0 || x.used < m.things[at].used) {
			at = i
		}
	}
	return at
}

func (m *model) remove(i int) { m.things = slices.Delete(slices.Clone(m.things), i, i+1) }

func (m *model) get(key string) (string, bool) {
	i := m.at(key)
	if i < 0 {
		m.missed++
		return "", false
	}
	m.found++
	m.now++
	m.things[i].used = m.now
	return m.things[i].value, true
}

func (m *model) put(key, value string) api.Errno {
	pinned := m.sum(func(x thing) bool { return x.isPinned() && x.key != key })
	if len(key)+len(value)+pinned > m.budget {
		return api.ErrCacheLong
	}
	next := thing{key: key}
	if i := m.at(key); i >= 0 {
		next = m.things[i]
		m.remove(i)
	}
	next.value = value
	for m.sum(func(thing) bool { return true })+next.counts() > m.budget {
		m.remove(m.least())
		m.out++
	}
	m.now++
	next.used = m.now
	m.things = append(m.things, next)
	return api.OK
}

func (m *model) drop(key string) api.Errno {
	i := m.at(key)
	if i < 0 {
		return api.ErrCacheNone
	}
	if m.things[i].isPinned() {
		return api.ErrCachePins
	}
	m.remove(i)
	return api.OK
}

func (m *model) pin(key string) api.Errno {
	i := m.at(key)
	if i < 0 {
		return api.ErrCacheNone
	}
	if m.things[i].pinned-m.things[i].unpinned == 65535 {
		return api.ErrCachePins
	}
	m.things[i].pinned++
	return api.OK
}

func (m *model) unpin(key string) api.Errno {
	i := m.at(key)
	if i < 0 {
		return api.ErrCacheNone
	}
	if !m.things[i].isPinned() {
		return api.ErrCachePins
	}
	m.things[i].unpinned++
	return api.OK
}

func (m *model) keys() []string {
	l := slices.Clone(m.things)
	slices.SortFunc(l, func(a, b thing) int { return b.used - a.used })
	var keys []string
	for _, x := range l {
		keys = append(keys, x.key)
	}
	return keys
}

func (m *model) tally() api.Tally {
	return api.Tally{
		Count:  len(m.things),
		Bytes:  m.sum(func(thing) bool { return true }),
		Pinned: m.sum(thing.isPinned),
		Found:  m.found,
		Missed: m.missed,
		Out:    m.out,
	}
}

// rate is the float32 that is nearest to the fraction; numbers below 2^24 are float32s themselves.
func (m *model) rate() float32 {
	if m.found+m.missed == 0 {
		return 0
	}
	f, _ := big.NewRat(int64(m.found), int64(m.found+m.missed)).Float32()
	return f
}

// played is a cache, and what it should be.
type played struct {
	*testing.T
	c *cache.Cache
	m *model
}

func made(t *testing.T, budget int) played {
	t.Helper()
	c, e := cache.New(budget)
	if c == nil || e != api.OK {
		t.Fatalf("K1: New(%d): a cache: %t, %d", budget, c != nil, e)
	}
	p := played{t, c, &model{budget: budget}}
	p.is()
	return p
}

// is holds the cache to all that can be asked without changing anything.
func (p played) is() {
	p.Helper()
	if l := p.c.Keys(); !slices.Equal(l, p.m.keys()) {
		p.Fatalf("K5: Keys: %.200q, want %.200q", l, p.m.keys())
	}
	if x := p.c.Tally(); x != p.m.tally() {
		p.Fatalf("K5: Tally: %+v, want %+v", x, p.m.tally())
	}
	if r := p.c.Rate(); r != p.m.rate() {
		p.Fatalf("K5: Rate: %v, want %v", r, p.m.rate())
	}
}

// has holds it to the keys that are there, the one used last first.
func (p played) has(keys ...string) {
	p.Helper()
	if l := p.c.Keys(); !slices.Equal(l, keys) {
		p.Errorf("K5: Keys: %q, want %q", l, keys)
	}
	p.is()
}

// gets asks for all values, and a key that is not there.
func (p played) gets() {
	p.Helper()
	for _, key := range append(p.m.keys(), "no such key") {
		p.get(key)
	}
	p.is()
}

func (p played) get(key string) {
	p.Helper()
	want, wantIs := p.m.get(key)
	if s, is := p.c.Get(key); s != want || is != wantIs {
		p.Fatalf("K2: Get(%.50q): %.50q, %t, want %.50q, %t", key, s, is, want, wantIs)
	}
}

func (p played) put(key, value string) {
	p.Helper()
	want := p.m.put(key, value)
	if e := p.c.Put(key, value); e != want {
		p.Fatalf("K3: Put(%.50q, %.50q): %d, want %d", key, value, e, want)
	}
}

func (p played) drop(key string) {
	p.Helper()
	want := p.m.drop(key)
	if e := p.c.Drop(key); e != want {
		p.Fatalf("K4: Drop(%.50q): %d, want %d", key, e, want)
	}
}

func (p played) pin(key string) {
	p.Helper()
	want := p.m.pin(key)
	if e := p.c.Pin(key); e != want {
		p.Fatalf("K4: Pin(%.50q): %d, want %d", key, e, want)
	}
}

func (p played) unpin(key string) {
	p.Helper()
	want := p.m.unpin(key)
	if e := p.c.Unpin(key); e != want {
		p.Fatalf("K4: Unpin(%.50q): %d, want %d", key, e, want)
	}
}

// step plays a call of any kind on one of so many keys; values have up to so many bytes.
func (p played) step(r *rand.Rand, keys, most int) {
	p.Helper()
	key := keyOf(r.Intn(keys))
	switch r.Intn(16) {
	case 0, 1, 2, 3:
		p.get(key)
	case 4:
		p.drop(key)
	case 5, 6:
		p.pin(key)
	case 7, 8:
		p.unpin(key)
	default:
		p.put(key, anyText(r, most))
	}
}

// keyOf are keys of unlike lengths, the empty one among them.
func keyOf(n int) string {
	if n == 0 {
		return ""
	}
	return strings.Repeat("k", n%4) + strconv.Itoa(n)
}

// anyText has up to so many bytes, of any values.
func anyText(r *rand.Rand, most int) string {
	b := make([]byte, r.Intn(most+1))
	for i := range b {
		b[i] = byte(r.Intn(256))
	}
	return string(b)
}
