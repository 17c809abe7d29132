package cache

import (
	"math/rand"
	"strconv"
	"strings"
	"testing"

	"scrivener/api"
)

// keptIsRight holds what is kept to what is there: one place a value, found by its key, with its neighbours on both sides.
func keptIsRight(t *testing.T, c *Cache) {
	t.Helper()
	count := 0
	var newer *place[held]
	for p := c.order.newest; p != nil; p = p.older {
		if found, there := c.table.find(p.thing.key); !there || found != p {
			t.Fatalf("K5: %q stands in the order, and is not found", p.thing.key)
		}
		if p.newer != newer {
			t.Fatalf("K5: %q has another neighbour from the one side than from the other", p.thing.key)
		}
		newer = p
		count++
	}
	if c.order.oldest != newer {
		t.Fatal("K5: the order's other end is another one")
	}
	if count != c.tally.Count || len(c.table.things) != count {
		t.Fatalf("P5: %d stand in the order, %d in the table, %d are told", count, len(c.table.things), c.tally.Count)
	}
}

// What is put out, dropped or given up is kept no longer.
func TestKept(t *testing.T) {
	r := rand.New(rand.NewSource(31))
	for range 300 {
		c, _ := New(r.Intn(100))
		for range 200 {
			key, value := strconv.Itoa(r.Intn(30)), strings.Repeat("v", r.Intn(20))
			switch r.Intn(8) {
			case 0:
				c.Drop(key)
			case 1:
				c.Pin(key)
			case 2:
				c.Unpin(key)
			case 3:
				c.Get(key)
			default:
				c.Put(key, value)
			}
			keptIsRight(t, c)
		}
	}
}

// Numbers from 2^24 on are not all float32s: each of both is turned into one ahead of the division.
func TestRateOfGreatNumbers(t *testing.T) {
	for _, x := range []struct {
		found, missed int
		rate          float32
	}{
		{1<<24 + 1, 0, 1},
		{1<<24 + 1, 1, 1 - 1.0/(1<<23)}, // the one nearest to the fraction itself is twice as near to 1
		{1<<24 + 1, 1<<24 - 1, 0.5},
		{0, 1<<31 - 1, 0},
		{1<<31 - 1, 0, 1},
		{1<<30 - 1, 1 << 30, 0.5},
		{1<<24 + 3, 1<<25 - 3, 16777220.0 / 50331648.0},
	} {
		c := &Cache{tally: api.Tally{Found: x.found, Missed: x.missed}}
		if r := c.Rate(); r != x.rate {
			t.Errorf("K5: Rate of %d found, %d missed: %v, want %v", x.found, x.missed, r, x.rate)
		}
	}
}
