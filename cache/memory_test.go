package cache_test

import (
	"math/rand"
	"slices"
	"strconv"
	"strings"
	"testing"
	"unsafe"

	"scrivener/api"
	"scrivener/cache"
)

// overwrite writes into a list and all its spare room.
func overwrite(l []string) {
	l = l[:cap(l)]
	for i := range l {
		l[i] = "over"
	}
}

func TestListsAreNew(t *testing.T) {
	r := rand.New(rand.NewSource(21))
	p := made(t, 60)
	for range 500 {
		p.step(r, 15, 20)
		one, two := p.c.Keys(), p.c.Keys()
		overwrite(one)
		if !slices.Equal(two, p.m.keys()) {
			t.Fatal("R2: two lists of Keys share memory")
		}
		overwrite(two)
		p.is()
	}
	p.gets()
}

// A list that came out stays as it is when the cache goes on.
func TestListsStay(t *testing.T) {
	r := rand.New(rand.NewSource(22))
	p := made(t, 60)
	var all, copies [][]string
	for range 500 {
		p.step(r, 15, 20)
		l := p.c.Keys()
		all, copies = append(all, l), append(copies, slices.Clone(l))
	}
	for i, l := range all {
		if !slices.Equal(l, copies[i]) {
			t.Fatalf("R2: the list %d was written into when the cache went on", i)
		}
	}
}

// A cache keeps no text of which a key or a value is a piece: that would be more than its budget.
func TestPiecesAreCopied(t *testing.T) {
	long := strings.Repeat("long", 1000)
	p := made(t, 100)
	for round := range 3 {
		key, value := long[100:110], long[1000:1050+round]
		p.put(key, value)
		got, _ := p.c.Get(key)
		if got != value || unsafe.StringData(got) == unsafe.StringData(value) {
			t.Errorf("P5: round %d: the value that is kept is a piece of a longer text", round)
		}
		if kept := p.c.Keys()[0]; kept != key || unsafe.StringData(kept) == unsafe.StringData(key) {
			t.Errorf("P5: round %d: the key that is kept is a piece of a longer text", round)
		}
	}
}

// Asking changes nothing: neither what is there, nor what goes next.
func TestAskingChangesNothing(t *testing.T) {
	r := rand.New(rand.NewSource(23))
	one, two := made(t, 70), made(t, 70)
	for range 1000 {
		seed := r.Int63()
		one.step(rand.New(rand.NewSource(seed)), 15, 25)
		two.step(rand.New(rand.NewSource(seed)), 15, 25)
		for range r.Intn(5) {
			one.is()
		}
	}
	one.is()
	two.is()
	one.gets()
	two.gets()
}

func TestCachesDoNotDisturb(t *testing.T) {
	r := rand.New(rand.NewSource(24))
	for range 50 {
		var all []played
		for n := range 5 {
			all = append(all, made(t, 20*n))
		}
		for range 500 {
			all[r.Intn(len(all))].step(r, 10, 20)
		}
		for _, p := range all {
			p.gets()
		}
	}
}

func TestCallsAtOnce(t *testing.T) {
	shared := made(t, 50)
	shared.put("a", "1")
	shared.put("b", "2")
	shared.pin("a")
	shared.gets()
	t.Run("at once", func(t *testing.T) {
		for i := range 8 {
			t.Run(strconv.Itoa(i), func(t *testing.T) {
				t.Parallel()
				p := made(t, 10*i)
				r := rand.New(rand.NewSource(int64(i)))
				for range 300 {
					p.step(r, 10, 20)
					p.is()
					played{t, shared.c, shared.m}.is()
				}
			})
		}
	})
	shared.is()
}

// A refused call leaves all as it was, whatever it was handed.
func TestRefusedCallsChangeNothing(t *testing.T) {
	r := rand.New(rand.NewSource(25))
	refused := 0
	for range 300 {
		p := made(t, r.Intn(60))
		for range 60 {
			p.step(r, 8, 20)
			keys, tally := p.c.Keys(), p.c.Tally()
			key := keyOf(r.Intn(8))
			calls := []func() api.Errno{
				func() api.Errno { return p.c.Put(key, text(p.m.budget+r.Intn(3))) },
				func() api.Errno { return p.c.Drop("none") },
				func() api.Errno { return p.c.Pin("none") },
				func() api.Errno { return p.c.Unpin("none") },
			}
			if x := p.m.at(key); x >= 0 && p.m.things[x].isPinned() {
				calls = append(calls, func() api.Errno { return p.c.Drop(key) })
			} else if x >= 0 {
				calls = append(calls, func() api.Errno { return p.c.Unpin(key) })
			}
			for i, call := range calls {
				if len(key) == 0 && i == 0 {
					continue
				}
				if e := call(); e == api.OK {
					t.Fatalf("K3, K4: call %d on %q is not refused", i, key)
				}
				refused++
				if !slices.Equal(p.c.Keys(), keys) || p.c.Tally() != tally {
					t.Fatalf("R1: the refused call %d on %q has changed something", i, key)
				}
			}
		}
		p.gets()
	}
	if refused < 10000 {
		t.Errorf("only %d calls were refused", refused)
	}
}

// The zero value is no one else's.
func TestZeroValuesDoNotDisturb(t *testing.T) {
	var one, two cache.Cache
	one.Put("", "")
	if _, is := two.Get(""); is || len(two.Keys()) != 0 {
		t.Error("R2: two caches have a part in common")
	}
}
