package cache_test

import (
	"math/rand"
	"slices"
	"testing"

	"scrivener/api"
	"scrivener/cache"
)

// What follows: K6, and with it P5 of the whole as far as it speaks of caches. Nothing here is taken from the model: it is held against what was handed in and what came out.

// watched is a cache, and what has been handed to it.
type watched struct {
	*testing.T
	c      *cache.Cache
	budget int
	last   map[string]string // by keys: what the last Put that was OK gave
	pins   map[string]int    // by keys: pins less unpins that were OK, of those that are there
}

func watch(t *testing.T, budget int) watched {
	t.Helper()
	c, e := cache.New(budget)
	if e != api.OK {
		t.Fatalf("K1: New(%d): %d", budget, e)
	}
	return watched{t, c, budget, map[string]string{}, map[string]int{}}
}

// call makes a call of any kind, and writes down what was answered.
func (w watched) call(r *rand.Rand, keys, most int) {
	w.Helper()
	key := keyOf(r.Intn(keys))
	switch r.Intn(8) {
	case 0:
		w.c.Drop(key)
	case 1:
		if w.c.Pin(key) == api.OK {
			w.pins[key]++
		}
	case 2:
		if w.c.Unpin(key) == api.OK {
			w.pins[key]--
		}
	case 3, 4:
		if s, is := w.c.Get(key); is && s != w.last[key] || !is && s != "" {
			w.Fatalf("K6: Get(%q): %q, but the last Put gave %q", key, s, w.last[key])
		}
	default:
		value := anyText(r, most)
		if w.c.Put(key, value) == api.OK {
			w.last[key] = value
			if keys := w.c.Keys(); keys[0] != key {
				w.Fatalf("K3: behind a Put of %q: %q", key, keys)
			}
		}
	}
}

// is holds what is there to the budget, and to the pins.
func (w watched) is() {
	w.Helper()
	keys, x, bytes, pinned := w.c.Keys(), w.c.Tally(), 0, 0
	for i, key := range keys {
		if slices.Contains(keys[:i], key) {
			w.Fatalf("K5: %q is there twice", key)
		}
		bytes += len(key) + len(w.last[key])
		if w.pins[key] > 0 {
			pinned += len(key) + len(w.last[key])
		}
	}
	if bytes > w.budget || x.Bytes != bytes || x.Pinned != pinned || x.Count != len(keys) {
		w.Fatalf("K5, K6: %d bytes of %d are there, %d of them pinned: %+v", bytes, w.budget, pinned, x)
	}
	for key, n := range w.pins {
		if n > 0 && !slices.Contains(keys, key) {
			w.Fatalf("K6: %q is pinned %d times, and is gone", key, n)
		}
		if n < 0 {
			w.Fatalf("K4: %q was unpinned more often than pinned", key)
		}
	}
}

func TestNeverMoreThanTheBudget(t *testing.T) {
	r := rand.New(rand.NewSource(11))
	for range 1500 {
		w := watch(t, r.Intn([]int{1, 8, 60, 300}[r.Intn(4)]))
		keys, most := 1+r.Intn(25), r.Intn(2+w.budget)
		for range 200 {
			w.call(r, keys, most)
			w.is()
		}
	}
}

// What is unpinned as often as it was pinned can go again, and not sooner.
func TestUnpinnedAsOften(t *testing.T) {
	for pins := range 6 {
		for unpins := range pins + 1 {
			c, _ := cache.New(10)
			c.Put("a", "1")
			for range pins {
				c.Pin("a")
			}
			for range unpins {
				c.Unpin("a")
			}
			e, want := c.Put("z", text(9)), api.OK
			if unpins < pins {
				want = api.ErrCacheLong
			}
			if _, is := c.Get("a"); e != want || is != (unpins < pins) {
				t.Errorf("K6: pinned %d times, unpinned %d times: Put of another one: %d; it is there: %t", pins, unpins, e, is)
			}
		}
	}
}

// served asks for a key, and puts its value in if it is not there.
func served(t *testing.T, c *cache.Cache, key, value string) {
	t.Helper()
	s, is := c.Get(key)
	if is && s != value {
		t.Fatalf("K6: Get(%q): %q, want %q", key, s, value)
	}
	if !is {
		if e := c.Put(key, value); e != api.OK {
			t.Fatalf("K3: Put(%q, %q): %d", key, value, e)
		}
	}
}

// A greater budget has all that a lesser one has, whatever is asked.
func TestGreaterBudgetsHaveAll(t *testing.T) {
	r := rand.New(rand.NewSource(12))
	less, more := 0, 0
	for range 300 {
		keys := 2 + r.Intn(30)
		values, least := make([]string, keys), 0
		for i := range values {
			values[i] = anyText(r, r.Intn(20))
			least = max(least, len(keyOf(i))+len(values[i]))
		}
		budgets := []int{least, least + 1, least + r.Intn(20), least + r.Intn(100), least + r.Intn(1000), api.MaxBudget}
		slices.Sort(budgets)
		var all []*cache.Cache
		for _, budget := range budgets {
			c, _ := cache.New(budget)
			all = append(all, c)
		}
		for range 300 {
			// The lesser of two: some keys are asked for more often than others.
			i := min(r.Intn(keys), r.Intn(keys))
			for _, c := range all {
				served(t, c, keyOf(i), values[i])
			}
			hasAll(t, all)
		}
		less += all[0].Tally().Found
		more += all[len(all)-1].Tally().Found
	}
	if less == 0 || less >= more {
		t.Errorf("K6: found: %d with the least budgets, %d with the greatest ones", less, more)
	}
}

// hasAll holds each cache to the one of the next lesser budget: what that has is there, and was used as lately.
func hasAll(t *testing.T, all []*cache.Cache) {
	t.Helper()
	for i, c := range all[1:] {
		less, more := all[i].Keys(), c.Keys()
		if len(less) > len(more) || !slices.Equal(less, more[:len(less)]) {
			t.Fatalf("K6: the greater budget has %q, the lesser one %q", more, less)
		}
		if a, b := all[i].Tally(), c.Tally(); a.Found > b.Found || a.Found+a.Missed != b.Found+b.Missed {
			t.Fatalf("K6: of the same asks: %+v, and with a greater budget %+v", a, b)
		}
	}
}

// How many came is how many are there, were put out, or were dropped.
func TestAllThatCame(t *testing.T) {
	r := rand.New(rand.NewSource(13))
	for range 300 {
		c, _ := cache.New(r.Intn(80))
		came, dropped, asked := 0, 0, 0
		for range 300 {
			key := keyOf(r.Intn(20))
			was := slices.Contains(c.Keys(), key)
			switch r.Intn(5) {
			case 0:
				if c.Drop(key) == api.OK {
					dropped++
				}
			case 1:
				c.Get(key)
				asked++
			default:
				if c.Put(key, anyText(r, 30)) == api.OK && !was {
					came++
				}
			}
			x := c.Tally()
			if came != x.Count+x.Out+dropped || asked != x.Found+x.Missed {
				t.Fatalf("K5: %d came, %d were dropped, %d were asked for: %+v", came, dropped, asked, x)
			}
		}
	}
}
