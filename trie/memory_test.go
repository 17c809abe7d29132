package trie_test

import (
	"fmt"
	"math/rand"
	"runtime"
	"slices"
	"strings"
	"sync"
	"testing"
	"unsafe"

	"scrivener/api"
	"scrivener/trie"
)

// within tells whether a text is a piece of a longer one.
func within(piece, long string) bool {
	from, at := uintptr(unsafe.Pointer(unsafe.StringData(long))), uintptr(unsafe.Pointer(unsafe.StringData(piece)))
	return from <= at && at < from+uintptr(len(long))
}

// over writes over a list, and over its spare room.
func over(l []string) {
	l = l[:cap(l)]
	for i := range l {
		l[i] = "over"
	}
}

func TestListsAreNew(t *testing.T) {
	for n := range 70 {
		p := numbered(t, n)
		for range 3 {
			over(p.m.Keys())
			over(p.m.Clone().Keys())
			for i := range n + 5 {
				over(p.tells(fmt.Sprint("key ", i)).Sides)
			}
			p.is("R2")
			p.set("key 3", "another")
			p.is("R2: behind Set")
		}
		for i := range n + 5 {
			p.tells(fmt.Sprint("key ", i))
		}
	}
}

// What came out stays as it was, whatever is done with the map.
func TestListsStay(t *testing.T) {
	p := numbered(t, 30)
	s, keys, root := p.proved("key 5"), p.m.Keys(), p.m.Root()
	was, wasKeys := s.copied(), slices.Clone(keys)
	for i := range 60 {
		p.set(fmt.Sprint("key ", i), "another")
		p.remove(fmt.Sprint("key ", i-9))
		p.m.Prove("key 5")
		p.m.Keys()
	}
	if !same(s.p, was.p) || !slices.Equal(keys, wasKeys) || s.checked(t, "what was proved") != api.OK || root != s.root {
		t.Error("R2: a list that came out was written into")
	}
}

// The sides that Check is given are not written into, nor their spare room.
func TestListsAreNotWritten(t *testing.T) {
	p := numbered(t, 30)
	for i := range 40 {
		for _, root := range []string{p.m.Root(), noughts, ""} {
			s := p.proved(fmt.Sprint("key ", i))
			roomy := slices.Concat(s.p.Sides, []string{"spare", "room"})
			was := slices.Clone(roomy)
			s.p.Sides, s.root = roomy[:len(s.p.Sides)], root
			s.checked(t, "with spare room")
			if !slices.Equal(roomy, was) {
				t.Fatalf("R2: the sides of key %d were written into", i)
			}
		}
	}
}

// A map keeps no text of which a key or a value is a piece.
func TestPiecesAreCopied(t *testing.T) {
	long := strings.Repeat("a long text, of which one needs but a few bytes", 1000)
	m := trie.New()
	for range 2 {
		m.Set(long[7:11], long[20:30])
		m.Set(long[40:41], long[2:3])
		for _, key := range m.Keys() {
			if value, _ := m.Get(key); within(key, long) || within(value, long) {
				t.Errorf("R2: what is kept of %q is a piece of a longer text", key)
			}
		}
	}
}

// Asking changes nothing.
func TestAskingChangesNothing(t *testing.T) {
	p := numbered(t, 20)
	for i := range 40 {
		key := fmt.Sprint("key ", i)
		for range 3 {
			p.tells(key)
			p.m.Keys()
			p.m.Clone()
			p.m.Remove("none")
			p.m.Set(strings.Repeat("k", 201), "v")
			p.m.Set(key, strings.Repeat("v", 1001))
			p.is("R2")
		}
		p.set(key, "v")
	}
}

// Clones do not disturb one another, though they are called at once; nor does any call leave a goroutine behind.
func TestCallsAtOnce(t *testing.T) {
	before := runtime.NumGoroutine()
	p := numbered(t, 40)
	var all sync.WaitGroup
	for i := range 8 {
		c := p.clone()
		all.Go(func() {
			r := kinds{rand.New(rand.NewSource(int64(i))), 60}
			for range 60 {
				r.call(c)
				c.tells(r.key())
				if r.Intn(5) == 0 {
					c = c.clone()
				}
			}
			c.is("R2: at once")
		})
	}
	all.Wait()
	p.is("R2: behind its clones")
	if n := runtime.NumGoroutine(); n > before {
		t.Errorf("R2: %d goroutines ahead, %d behind", before, n)
	}
}

// One map may be asked by several at once, as long as nobody changes it.
func TestAskedAtOnce(t *testing.T) {
	p := numbered(t, 40)
	var all sync.WaitGroup
	for i := range 8 {
		all.Go(func() {
			for j := range 20 {
				p.tells(fmt.Sprint("key ", i+j*3))
				p.is("R2: asked at once")
				p.m.Clone()
			}
		})
	}
	all.Wait()
}
