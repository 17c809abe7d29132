package cache_test

import (
	"math"
	"math/rand"
	"slices"
	"strconv"
	"strings"
	"testing"

	"scrivener/api"
	"scrivener/cache"
)

func text(n int) string { return strings.Repeat("x", n) }

// answers tells that a call has not answered what it should.
func answers(t *testing.T, name string, e, want api.Errno) {
	t.Helper()
	if e != want {
		t.Errorf("%s: %d, want %d", name, e, want)
	}
}

func TestNew(t *testing.T) {
	for _, budget := range []int{0, 1, 2, 255, 256, 65535, 65536, 1 << 23, 16777215, 16777216} {
		p := made(t, budget)
		if x := p.c.Tally(); x != (api.Tally{}) || p.c.Rate() != 0 || len(p.c.Keys()) != 0 {
			t.Errorf("K1: New(%d): not empty: %+v", budget, x)
		}
	}
	wrong := []int{math.MinInt, math.MinInt + 1, -1 << 32, -16777216, -2, -1, 16777217, 16777218, 1<<32 - 1, 1 << 32, 1<<32 + 1, 1 << 62, math.MaxInt - 1, math.MaxInt}
	for i := 25; i < 63; i++ {
		wrong = append(wrong, 1<<i, 1<<i+5, -(1 << i))
	}
	for _, budget := range wrong {
		if c, e := cache.New(budget); c != nil || e != api.ErrCacheBudget {
			t.Errorf("K1: New(%d): a cache: %t, %d", budget, c != nil, e)
		}
	}
}

func TestFirstExample(t *testing.T) {
	p := made(t, 10)
	answers(t, "example 1: Put a", p.c.Put("a", "123"), api.OK)
	answers(t, "example 1: Put b", p.c.Put("b", "12345"), api.OK)
	if s, is := p.c.Get("a"); s != "123" || !is {
		t.Errorf("example 1: Get: %q, %t", s, is)
	}
	answers(t, "example 1: Put c", p.c.Put("c", "1"), api.OK)
	if l := p.c.Keys(); !slices.Equal(l, []string{"c", "a"}) {
		t.Errorf("example 1: Keys: %q", l)
	}
	if x := p.c.Tally(); x != (api.Tally{Count: 2, Bytes: 6, Pinned: 0, Found: 1, Missed: 0, Out: 1}) {
		t.Errorf("example 1: Tally: %+v", x)
	}
}

func TestSecondExample(t *testing.T) {
	p := made(t, 10)
	p.put("a", "123")
	p.put("c", "1")
	answers(t, "example 2: Pin a", p.c.Pin("a"), api.OK)
	answers(t, "example 2: Put d of 7", p.c.Put("d", "123456"), api.ErrCacheLong)
	if l := p.c.Keys(); !slices.Equal(l, []string{"c", "a"}) {
		t.Errorf("example 2: a refused Put leaves %q", l)
	}
	answers(t, "example 2: Put d of 6", p.c.Put("d", "12345"), api.OK)
	if l := p.c.Keys(); !slices.Equal(l, []string{"d", "a"}) {
		t.Errorf("example 2: Keys: %q", l)
	}
	answers(t, "example 2: Drop a", p.c.Drop("a"), api.ErrCachePins)
	answers(t, "example 2: Unpin a", p.c.Unpin("a"), api.OK)
	answers(t, "example 2: Unpin a again", p.c.Unpin("a"), api.ErrCachePins)
	answers(t, "example 2: Put a of 10", p.c.Put("a", "123456789"), api.OK)
	if l := p.c.Keys(); !slices.Equal(l, []string{"a"}) {
		t.Errorf("example 2: Keys: %q", l)
	}
	answers(t, "example 2: Put a of 11", p.c.Put("a", "1234567890"), api.ErrCacheLong)
	if s, is := p.c.Get("a"); s != "123456789" || !is {
		t.Errorf("example 2: a is not as it was: %q, %t", s, is)
	}
	if x := p.c.Tally(); x != (api.Tally{Count: 1, Bytes: 10, Found: 1, Out: 2}) {
		t.Errorf("example 2: Tally: %+v", x)
	}
}

func TestThirdExample(t *testing.T) {
	c := made(t, 0).c
	answers(t, "example 3: Put of nothing", c.Put("", ""), api.OK)
	answers(t, "example 3: Put a", c.Put("a", ""), api.ErrCacheLong)
	if l := c.Keys(); !slices.Equal(l, []string{""}) {
		t.Errorf("example 3: Keys: %q", l)
	}
	if s, is := c.Get(""); s != "" || !is {
		t.Errorf("example 3: Get: %q, %t", s, is)
	}
}

func TestGet(t *testing.T) {
	p := made(t, 100)
	for _, key := range []string{"", "a", "\x00", "\xff\xfe", "a\x00", "A", "ab", text(40)} {
		p.get(key)
		p.put(key, "of "+strconv.Itoa(len(key)))
		p.get(key)
		p.is()
	}
	for _, key := range []string{"a", "", "a", "ab", "ab", "none", "\xff\xfe"} {
		p.get(key)
		p.is()
	}
	p.has("\xff\xfe", "ab", "a", "", text(40), "A", "a\x00", "\x00")
}

// A key that is not there changes nothing but how many were missed, however it is asked for.
func TestNotThere(t *testing.T) {
	p := made(t, 10)
	p.put("a", "1")
	p.put("b", "2")
	for range 3 {
		for _, key := range []string{"", "c", "A", "a ", "ab", "a\x00"} {
			p.get(key)
			p.drop(key)
			p.pin(key)
			p.unpin(key)
			p.is()
		}
	}
	if x := p.c.Tally(); x != (api.Tally{Count: 2, Bytes: 4, Missed: 18}) {
		t.Errorf("K2, K4: Tally: %+v", x)
	}
}

// A value has all its bytes, whatever they are.
func TestValuesAreWhole(t *testing.T) {
	p := made(t, 1000)
	var all []byte
	for i := range 256 {
		all = append(all, byte(i))
	}
	p.put(string(all), string(all))
	p.put("", string(all[:100]))
	p.put("\x00", "")
	p.put("\x00\x00", "\x00")
	p.gets()
	p.get(string(all[:255]))
	if s, is := p.c.Get(string(all)); s != string(all) || !is {
		t.Errorf("K2: %q, %t", s, is)
	}
}

func TestPutUpToTheBudget(t *testing.T) {
	for _, budget := range []int{0, 1, 2, 3, 10, 1000, 16777215, 16777216} {
		for _, key := range []string{"", "a", "abc"} {
			for _, more := range []int{-2, -1, 0, 1, 2} {
				n := budget - len(key) + more
				if n < 0 {
					continue
				}
				p := made(t, budget)
				want := api.OK
				if more > 0 {
					want = api.ErrCacheLong
				}
				answers(t, "K3: Put of "+strconv.Itoa(n+len(key))+" of "+strconv.Itoa(budget), p.c.Put(key, text(n)), want)
				p.m.put(key, text(n))
				p.gets()
				p.get(key)
			}
		}
	}
}

// A key counts as its value does.
func TestKeysCount(t *testing.T) {
	p := made(t, 10)
	p.put(text(10), "")
	p.put(text(11), "")
	p.is()
	p.put(text(9), "")
	p.has(text(9))
	p.put("a", "")
	p.has("a", text(9))
	p.put("b", "")
	p.has("b", "a")
}

// As many are put out as must be, from the least lately used on, and no more.
func TestPutOut(t *testing.T) {
	for n := 1; n <= 11; n++ {
		p := made(t, 20)
		for i := range 10 {
			p.put(strconv.Itoa(i), "v")
		}
		p.put("z", text(n))
		want := []string{"z"}
		for i := 9; i >= (n+2)/2; i-- {
			want = append(want, strconv.Itoa(i))
		}
		p.has(want...)
		if out := p.c.Tally().Out; out != (n+2)/2 {
			t.Errorf("K3, K5: for %d bytes %d were put out", n+1, out)
		}
		p.gets()
	}
}

// One after the other is put out, though a later one alone would do.
func TestPutOutInOrder(t *testing.T) {
	p := made(t, 12)
	p.put("a", "")
	p.put("b", "1")
	p.put("c", "12345678")
	p.put("d", "123")
	p.has("d")
	p.put("e", "1234567")
	p.put("f", "")
	p.has("f", "e")
	p.put("g", "12")
	p.has("g", "f", "e")
	p.put("h", "")
	p.has("h", "g", "f")
	if out := p.c.Tally().Out; out != 5 {
		t.Errorf("K3, K5: %d were put out", out)
	}
}

// What counts nothing is put out in its turn, though that makes no room.
func TestWhatCountsNothing(t *testing.T) {
	p := made(t, 4)
	p.put("", "")
	p.put("a", "1")
	p.put("b", "1")
	p.has("b", "a", "")
	p.put("c", "")
	p.has("c", "b")
	p.put("", "")
	p.has("", "c", "b")
	p.pin("")
	if x := p.c.Tally(); x.Pinned != 0 || x.Count != 3 {
		t.Errorf("K5: Tally: %+v", x)
	}
	p.put("d", "123")
	p.has("d", "")
	p.drop("")
	p.unpin("")
	p.drop("")
	p.has("d")
}

// A use is a Get that finds something, or a Put that is OK; nothing else is.
func TestUses(t *testing.T) {
	uses := map[string]func(p played){
		"Get":              func(p played) { p.get("a") },
		"Put":              func(p played) { p.put("a", "2") },
		"Put of the same":  func(p played) { p.put("a", "1") },
		"Put of more":      func(p played) { p.put("a", "123") },
		"Put of a pinned":  func(p played) { p.pin("a"); p.put("a", "2"); p.unpin("a") },
		"Get of a pinned":  func(p played) { p.pin("a"); p.get("a"); p.unpin("a") },
		"Drop, then a Put": func(p played) { p.drop("a"); p.put("a", "1") },
	}
	for name, use := range uses {
		p := made(t, 8)
		for _, key := range []string{"a", "b", "c"} {
			p.put(key, "1")
		}
		use(p)
		if l := p.c.Keys(); !slices.Equal(l, []string{"a", "c", "b"}) {
			t.Errorf("K2, K3: %s: %q", name, l)
		}
		p.put("d", "123")
		if l := p.c.Keys(); slices.Contains(l, "b") || !slices.Contains(l, "a") {
			t.Errorf("K3: %s: %q", name, l)
		}
		p.gets()
	}
	others := map[string]func(p played){
		"Pin":                    func(p played) { p.pin("a"); p.pin("a") },
		"Pin, then Unpin":        func(p played) { p.pin("a"); p.unpin("a") },
		"Unpin":                  func(p played) { p.unpin("a") },
		"a Put that is refused":  func(p played) { p.put("a", text(8)) },
		"a Drop that is refused": func(p played) { p.pin("a"); p.drop("a"); p.unpin("a") },
		"Get of another one":     func(p played) { p.get("x") },
		"Drop of another one":    func(p played) { p.drop("x") },
		"Keys, Tally, Rate":      func(p played) { p.is() },
	}
	for name, other := range others {
		p := made(t, 8)
		for _, key := range []string{"a", "b", "c"} {
			p.put(key, "1")
		}
		other(p)
		if l := p.c.Keys(); !slices.Equal(l, []string{"c", "b", "a"}) {
			t.Errorf("K4, K5: %s: %q", name, l)
		}
		p.gets()
	}
}

// The value that a key had is given up first: none is put out for what it counted.
func TestPutOfAKeyThatIsThere(t *testing.T) {
	p := made(t, 10)
	p.put("a", "1234")
	p.put("b", "1234")
	p.put("a", "4321")
	p.has("a", "b")
	p.put("b", "")
	p.has("b", "a")
	p.put("c", "123")
	p.has("c", "b", "a")
	// It was used least lately itself: it stays, and the next one goes.
	p.put("a", "12345")
	p.has("a", "c")
	p.put("c", "123456789")
	p.has("c")
	p.put("c", "1234567890")
	p.has("c")
	p.put("c", "")
	p.has("c")
	if x := p.c.Tally(); x != (api.Tally{Count: 1, Bytes: 1, Out: 2}) {
		t.Errorf("K3, K5: Tally: %+v", x)
	}
	p.gets()
}

// What is pinned is passed over, wherever it stands.
func TestPinnedOnesStay(t *testing.T) {
	keys := []string{"a", "b", "c", "d", "e"}
	for set := range 1 << len(keys) {
		for n := range 11 {
			p := made(t, 10)
			for i, key := range keys {
				p.put(key, "1")
				if set>>i&1 == 1 {
					p.pin(key)
				}
			}
			p.put("z", text(n))
			p.is()
			for i, key := range keys {
				if set>>i&1 == 1 && !slices.Contains(p.c.Keys(), key) {
					t.Errorf("K6: of %05b %s is pinned, and is gone", set, key)
				}
			}
			p.gets()
		}
	}
}

// The pinned ones of other keys count against a value, its own does not.
func TestPutBesidePinnedOnes(t *testing.T) {
	p := made(t, 10)
	p.put("a", "123")
	p.pin("a")
	p.put("b", "12")
	p.pin("b")
	p.put("c", "")
	for n := range 9 {
		p.put("d", text(n))
		p.is()
	}
	p.has("d", "b", "a")
	p.put("a", "12")
	p.has("a", "d", "b")
	p.put("a", "1234567")
	p.has("a", "d", "b")
	p.put("a", "123456")
	p.has("a", "b")
	if x := p.c.Tally(); x.Pinned != 10 || x.Bytes != 10 {
		t.Errorf("K5: Tally: %+v", x)
	}
	p.put("", "")
	p.put("d", "")
	p.has("", "a", "b")
	p.put("b", "")
	if x := p.c.Tally(); x.Pinned != 8 || x.Bytes != 8 {
		t.Errorf("K5: Tally: %+v", x)
	}
	p.gets()
}

// The pins of a key stay when it is given another value, all of them.
func TestPinsStayWithPut(t *testing.T) {
	p := made(t, 10)
	p.put("a", "1")
	for range 3 {
		p.pin("a")
	}
	for _, value := range []string{"", "123", "1", text(9), text(10)} {
		p.put("a", value)
		p.drop("a")
		p.is()
	}
	for range 2 {
		answers(t, "K4: Unpin", p.c.Unpin("a"), api.OK)
		p.m.unpin("a")
		answers(t, "K4: Drop", p.c.Drop("a"), api.ErrCachePins)
		p.is()
	}
	answers(t, "K4: Unpin", p.c.Unpin("a"), api.OK)
	answers(t, "K4: Unpin", p.c.Unpin("a"), api.ErrCachePins)
	answers(t, "K4: Drop", p.c.Drop("a"), api.OK)
}

// A key that comes again has no pins of before.
func TestPinsGoWithTheValue(t *testing.T) {
	for _, goes := range []func(p played){func(p played) { p.drop("a") }, func(p played) { p.put("z", text(9)) }} {
		p := made(t, 10)
		p.put("a", "1")
		p.pin("a")
		p.pin("a")
		p.unpin("a")
		p.unpin("a")
		goes(p)
		p.unpin("a")
		p.pin("a")
		p.put("a", "1")
		answers(t, "K4: Unpin of one that came again", p.c.Unpin("a"), api.ErrCachePins)
		p.pin("a")
		answers(t, "K4: Unpin", p.c.Unpin("a"), api.OK)
		answers(t, "K4: Drop", p.c.Drop("a"), api.OK)
	}
}

func TestMostPins(t *testing.T) {
	p := made(t, 10)
	p.put("a", "1")
	p.put("b", "")
	for range 65534 {
		p.pin("a")
	}
	for range 3 {
		answers(t, "K4: the last Pin", p.c.Pin("a"), api.OK)
		p.m.pin("a")
		for range 3 {
			answers(t, "K4: one Pin more", p.c.Pin("a"), api.ErrCachePins)
			answers(t, "K4: Drop", p.c.Drop("a"), api.ErrCachePins)
			p.is()
		}
		p.put("a", "12")
		answers(t, "K4: one Pin more", p.c.Pin("a"), api.ErrCachePins)
		answers(t, "K4: Pin of another key", p.c.Pin("b"), api.OK)
		p.m.pin("b")
		p.unpin("a")
	}
	for range 65534 {
		p.unpin("a")
	}
	answers(t, "K4: one Unpin more", p.c.Unpin("a"), api.ErrCachePins)
	p.drop("a")
	p.drop("b")
	p.has("b")
}

func TestDrop(t *testing.T) {
	for drops := range 1 << 5 {
		p := made(t, 50)
		for i := range 5 {
			p.put(keyOf(i), text(i))
		}
		for i := range 5 {
			if drops>>i&1 == 1 {
				p.drop(keyOf(i))
				p.drop(keyOf(i))
				p.get(keyOf(i))
				p.is()
			}
		}
		if out := p.c.Tally().Out; out != 0 {
			t.Errorf("K5: Drop counts as %d put out", out)
		}
		p.put("new", "1")
		p.gets()
	}
}

// What is dropped makes room.
func TestDropMakesRoom(t *testing.T) {
	p := made(t, 6)
	p.put("a", "1")
	p.put("b", "1")
	p.put("c", "1")
	p.drop("b")
	p.put("d", "1")
	p.has("d", "c", "a")
	p.pin("a")
	p.put("e", "1234")
	p.has("d", "c", "a")
	p.unpin("a")
	p.drop("a")
	p.put("e", "123")
	p.has("e", "d")
}

func TestRate(t *testing.T) {
	p := made(t, 10)
	p.put("a", "1")
	for range 50 {
		p.get("b")
		p.is()
	}
	if r := p.c.Rate(); r != 0 {
		t.Errorf("K5: none was found: %v", r)
	}
	for range 500 {
		p.get("a")
		p.is()
	}
	if r := p.c.Rate(); r != float32(500)/float32(550) {
		t.Errorf("K5: Rate: %v", r)
	}
	q := made(t, 10)
	q.put("a", "1")
	q.get("a")
	if r := q.c.Rate(); r != 1 {
		t.Errorf("K5: all were found: %v", r)
	}
}

// Beside an error New gives no cache; and there are caches that it did not make.
func TestNoCache(t *testing.T) {
	none, _ := cache.New(-1)
	for range 2 {
		if s, is := none.Get("a"); s != "" || is {
			t.Errorf("R1: Get: %q, %t", s, is)
		}
		answers(t, "R1: Put", none.Put("a", "1"), api.ErrCacheLong)
		answers(t, "R1: Put of nothing", none.Put("", ""), api.ErrCacheLong)
		answers(t, "R1: Drop", none.Drop(""), api.ErrCacheNone)
		answers(t, "R1: Pin", none.Pin(""), api.ErrCacheNone)
		answers(t, "R1: Unpin", none.Unpin(""), api.ErrCacheNone)
		if none.Tally() != (api.Tally{}) || none.Rate() != 0 || len(none.Keys()) != 0 {
			t.Error("R1: no cache has something")
		}
	}
	var zero cache.Cache
	p := played{t, &zero, &model{}}
	p.is()
	p.get("")
	p.put("a", "")
	p.pin("")
	p.drop("")
	p.put("", "")
	p.pin("")
	p.drop("")
	p.gets()
}

func TestAnyCalls(t *testing.T) {
	r := rand.New(rand.NewSource(1))
	for range 1500 {
		p := made(t, r.Intn([]int{1, 10, 40, 200}[r.Intn(4)]))
		keys, most := 1+r.Intn(20), r.Intn(1+p.m.budget)
		for range 200 {
			p.step(r, keys, most)
			p.is()
		}
		p.gets()
	}
}

// Many values, of a great budget: those used last are there.
func TestManyValues(t *testing.T) {
	const size, given = 64, 400000
	c, _ := cache.New(api.MaxBudget)
	value := func(i int) string { return text(size/2) + strconv.Itoa(1000000+i) }
	key := func(i int) string { return value(i)[:size/2-7] + strconv.Itoa(1000000+i) }
	for i := range given {
		if e := c.Put(key(i), value(i)[7:]); e != api.OK {
			t.Fatalf("K3: %d", e)
		}
		c.Get(key(0))
	}
	const there = api.MaxBudget / size
	if x := c.Tally(); x != (api.Tally{Count: there, Bytes: api.MaxBudget, Found: given, Out: given - there}) {
		t.Fatalf("K5: %+v", x)
	}
	keys := c.Keys()
	if len(keys) != there || keys[0] != key(0) {
		t.Fatalf("K5: %d keys", len(keys))
	}
	for i, k := range keys[1:] {
		if k != key(given-1-i) {
			t.Fatalf("K5: key %d is %q", i+1, k)
		}
	}
	if e := c.Put("great", text(api.MaxBudget-5)); e != api.OK || !slices.Equal(c.Keys(), []string{"great"}) {
		t.Errorf("K3: all go for a great one: %d", e)
	}
}
