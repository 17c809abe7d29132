package plan_test

import (
	"math/rand"
	"slices"
	"strconv"
	"testing"
	"unsafe"

	"scrivener/api"
	"scrivener/cache"
	"scrivener/plan"
	"scrivener/tile"
)

// overwrite writes into a list and all its spare room.
func overwrite[E any](l []E, with E) {
	l = l[:cap(l)]
	for i := range l {
		l[i] = with
	}
}

// roomy is a copy of a list with spare room, which is filled.
func roomy[E any](l []E, with E) []E {
	c := slices.Concat(l, slices.Repeat([]E{with}, 5))
	return c[:len(l)]
}

// isRoomy tells whether such a list and its spare room are as they were.
func isRoomy[E any](l, was []E, with E, same func(a, b E) bool) bool {
	all := l[:len(l)+5]
	return slices.EqualFunc(l, was, same) && !slices.ContainsFunc(all[len(l):], func(e E) bool { return !same(e, with) })
}

func sameInt(a, b int) bool { return a == b }

// copied are asks with lists of their own, which have spare room.
func copied(asks []api.Request) []api.Request {
	l := slices.Clone(asks)
	for i := range l {
		l[i].List = roomy(l[i].List, -7)
	}
	return roomy(l, api.Request{Kind: -7})
}

// spoil writes into asks and all that is in them.
func spoil(asks []api.Request) {
	for _, r := range asks {
		overwrite(r.List, -1)
		overwrite(r.Entries, "over")
		overwrite(r.Asks, api.Request{Kind: -1})
	}
	overwrite(asks, api.Request{Kind: -1})
}

// What is handed in is not written into, nor its spare room, whether it is refused or not.
func TestListsAreNotWritten(t *testing.T) {
	r := rand.New(rand.NewSource(21))
	x := grown(t, 2, some(100, "leaf"))
	groups := [][]api.Request{wrongOnes()[:60], forms()[:50], {batchOf(100, 5, 4, 3)}, {chainOf(5, 4, 3), rootOf(1)}, {}}
	for range 300 {
		groups = append(groups, group(r, 110, 1+r.Intn(64)))
	}
	for _, was := range groups {
		asks := copied(was)
		for _, size := range []int{-1, 50, 100, 110} {
			plan.Make(asks, size)
			plan.Hashes(asks, size)
			plan.Saving(asks, size)
		}
		c := empty(t, 1000)
		plan.Run(x, c, asks)
		plan.Run(x, c, asks)
		if !isRoomy(asks, was, api.Request{Kind: -7}, sameRequest) {
			t.Fatalf("R2: %s were written into: %s", lines(was), lines(asks))
		}
		for i, r := range asks {
			if !isRoomy(r.List, was[i].List, -7, sameInt) {
				t.Fatalf("R2: the list of %v was written into: %v", was[i], r.List)
			}
		}
	}
}

// A plan shares no memory with what was handed in, nor with another one, nor within itself.
func TestPlansAreNew(t *testing.T) {
	r := rand.New(rand.NewSource(22))
	groups := [][]api.Request{{chainOf(1, 2)}, {batchOf(9, 1, 2)}, {chainOf(1, 2, 3), pairOf(1, 2)}, {pairOf(1, 2), pairOf(2, 3), pairOf(3, 4)}, {batchOf(600, from(0, 1, 256)...), batchOf(600, from(1, 1, 256)...), batchOf(600, from(0, 1, 256)...)}}
	for range 300 {
		groups = append(groups, group(r, 600, 1+r.Intn(64)))
	}
	for _, was := range groups {
		want, _ := slowMake(was, 600)
		asks := copied(was)
		p, _ := plan.Make(asks, 600)
		other, _ := plan.Make(asks, 600)
		spoil(asks)
		for i := range other.Steps {
			overwrite(other.Steps[i].List, -1)
			for k := i + 1; k < len(other.Steps); k++ {
				if !sameRequest(other.Steps[k], want.Steps[k]) {
					t.Fatalf("R2: %s: the lists of the steps %d and %d share memory", lines(was), i, k)
				}
			}
		}
		spoil(other.Steps)
		overwrite(other.Of, -1)
		if !samePlan(p, want) {
			t.Fatalf("R2: %s: a list is kept, or shared", lines(was))
		}
		isMake(t, was, 600)
	}
}

// Replies share no memory with what was handed in, nor with one another, nor with what is kept.
func TestRepliesAreNew(t *testing.T) {
	r := rand.New(rand.NewSource(23))
	l := some(100, "leaf")
	x, m := grown(t, 3, l), modelOf(l)
	c := empty(t, 20000)
	groups := [][]api.Request{{leafOf(3, 9), leafOf(3, 9), batchOf(9, 3), batchOf(9, 3)}, {batchOf(9, 1, 2), batchOf(9, 1, 2)}, {pairOf(1, 3), pairOf(1, 3), chainOf(1, 3), chainOf(1, 3)}, {pairOf(1, 3), pairOf(3, 5), pairOf(1, 3)}, {batchOf(9, 1, 2), leafOf(4, 9), leafOf(4, 9), leafOf(1, 9), batchOf(9, 1), batchOf(9, 1, 2), batchOf(9, 2, 4), batchOf(9, 1, 2, 4), batchOf(9, 1, 2, 4)}, {rootOf(3), rootOf(3)}}
	for range 300 {
		groups = append(groups, group(r, 100, 1+r.Intn(64)))
	}
	before := tilesOf(x)
	for _, was := range groups {
		want, _ := slowRun(m, empty(t, 0), was)
		asks := copied(was)
		replies, _ := plan.Run(x, c, asks)
		other, _ := plan.Run(x, c, asks)
		spoil(asks)
		for i := range other {
			overwrite(other[i].Hashes, "over")
			for k := i + 1; k < len(other); k++ {
				if !sameReply(other[k], want[k]) {
					t.Fatalf("R2: %s: the replies %d and %d share memory", lines(was), i, k)
				}
			}
		}
		overwrite(other, api.Reply{Status: -1})
		again, _ := plan.Run(x, c, was)
		if !slices.EqualFunc(replies, want, sameReply) || !slices.EqualFunc(again, want, sameReply) {
			t.Fatalf("R2: %s: a list is kept, or shared", lines(was))
		}
	}
	if !slices.EqualFunc(tilesOf(x), before, slices.Equal) {
		t.Error("R2: asking, or writing into the lists, has changed the tree")
	}
}

// tilesOf are all that a tree keeps.
func tilesOf(x *tile.Tree) [][]string {
	all := [][]string{{strconv.Itoa(x.Size()), strconv.Itoa(x.Height())}}
	for level := range 8 {
		for index := 0; ; index++ {
			row, e := x.Tile(level, index)
			if e != api.OK {
				break
			}
			all = append(all, row)
		}
	}
	return all
}

// What is answered does not hang on what was asked ahead of it, of this tree or another one, but by the cache.
func TestNothingIsKept(t *testing.T) {
	r := rand.New(rand.NewSource(24))
	one := serve(t, 2, 3000, some(50, "leaf"))
	two := serve(t, 2, 3000, append(some(7, "leaf"), some(43, "other")...))
	for range 200 {
		asks := group(r, 52, 1+r.Intn(20))
		isMake(t, asks, 50)
		one.run(asks...)
		two.run(asks...)
		isMake(t, asks, 52)
		one.run(asks...)
	}
	one.values()
	two.values()
}

func TestCallsAtOnce(t *testing.T) {
	l := some(60, "leaf")
	x, m := grown(t, 2, l), modelOf(l)
	asks := group(rand.New(rand.NewSource(25)), 60, 30)
	t.Run("at once", func(t *testing.T) {
		for i := range 8 {
			t.Run(strconv.Itoa(i), func(t *testing.T) {
				t.Parallel()
				s := &served{T: t, x: x, m: m, c: empty(t, 500*i), want: empty(t, 500*i)}
				for range 5 {
					isMake(t, asks, 60)
					s.run(asks...)
				}
				s.values()
			})
		}
	})
}

// Hashes that came out of the cache keep nothing of it: a piece would keep the whole value, which the cache may have put out.
func TestHashesAreCopies(t *testing.T) {
	l := some(1000, "leaf")
	x, c := grown(t, 3, l), empty(t, 100000)
	asks := []api.Request{batchOf(1000, from(0, 4, 250)...)}
	plan.Run(x, c, asks)
	replies, _ := plan.Run(x, c, asks)
	if c.Tally().Found != 1 || len(replies) != 1 {
		t.Fatal("L4: it was not found")
	}
	value, _ := c.Get(c.Keys()[0])
	for i, hash := range replies[0].Hashes {
		if hash != value[32*i:32*i+32] || isPieceOf(hash, value) {
			t.Fatalf("R2: the hash %d is a piece of what the cache keeps", i)
		}
	}
	var none *cache.Cache
	if _, e := plan.Run(x, none, asks); e != api.OK {
		t.Errorf("L3: without a cache: %d", e)
	}
}

// isPieceOf tells whether one text stands in the memory of another one.
func isPieceOf(s, all string) bool {
	first, from := uintptr(unsafe.Pointer(unsafe.StringData(s))), uintptr(unsafe.Pointer(unsafe.StringData(all)))
	return first >= from && first < from+uintptr(len(all))
}
