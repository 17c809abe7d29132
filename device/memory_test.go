package device_test

import (
	"math/rand"
	"slices"
	"strconv"
	"testing"

	"scrivener/api"
	"scrivener/device"
)

// overwrite writes into a list and all its spare room.
func overwrite[E any](l []E, with E) {
	l = l[:cap(l)]
	for i := range l {
		l[i] = with
	}
}

// spared is a list with spare room in which something stands.
func spared[E any](l []E, behind E) []E {
	room := append(slices.Clone(l), behind, behind, behind)
	return room[:len(l)]
}

// asWas tells whether a list and its spare room are as spared made them.
func asWas[E comparable](l, was []E, behind E) bool {
	room := l[:len(l)+3]
	return slices.Equal(l, was) && !slices.ContainsFunc(room[len(l):], func(x E) bool { return x != behind })
}

func TestListsAreNew(t *testing.T) {
	p := made(t, 5)
	for round := range 4 {
		p.write(round, mixed(round))
		p.write(4, mixed(round))
		pages, again := p.d.Pages(), p.d.Pages()
		overwrite(pages, "over")
		if !slices.Equal(again, p.m.pages()) {
			t.Error("R2: two lists of Pages share memory")
		}
		pending, twice := p.d.Pending(), p.d.Pending()
		overwrite(pending, api.Write{Page: 3, Data: "over"})
		if !slices.Equal(twice, p.m.pending()) {
			t.Error("R2: two lists of Pending share memory")
		}
		p.is()
		if round%2 == 1 {
			p.flush()
		}
		p.is()
	}
}

// A list that came out stays as it is when the device goes on.
func TestListsStay(t *testing.T) {
	p := made(t, 4)
	p.write(1, page("a"))
	pages, pending := p.d.Pages(), p.d.Pending()
	p.write(1, page("b"))
	p.write(2, page("c"))
	p.flush()
	p.write(3, page("d"))
	p.crash(api.Keep{N: 0, Bytes: 9})
	if !slices.Equal(pages, []string{blank, blank, blank, blank}) || !slices.Equal(pending, []api.Write{{Page: 1, Data: page("a")}}) {
		t.Error("R2: a list was written into when the device went on")
	}
	p.is()
}

func TestListsThatAreHandedIn(t *testing.T) {
	in := []string{page("a"), page("b"), page("c"), page("d")}
	l := spared(in, "behind")
	p := loaded(t, l)
	p.write(1, page("x"))
	p.write(2, page("y"))
	for _, keeps := range [][]api.Keep{{{N: 7}}, {{N: 1, Bytes: 3}, {N: 1, Bytes: 3}}, {{N: 1, Bytes: 3}, {N: 0, Bytes: 4}}} {
		k := spared(keeps, api.Keep{N: 77})
		p.crash(k...)
		if !asWas(k, keeps, api.Keep{N: 77}) {
			t.Errorf("R2: Crash has written into %v", keeps)
		}
		overwrite(k, api.Keep{N: 1, Bytes: 1})
		p.is()
	}
	p.write(0, page("z"))
	p.flush()
	if !asWas(l, in, "behind") {
		t.Error("R2: the list of Load was written into")
	}
	overwrite(l, "over")
	p.is()
	short := spared(in[:3], "behind")
	if _, e := device.Load(short); e != api.ErrArg || !asWas(short, in[:3], "behind") {
		t.Errorf("D1: Load of three pages: %d", e)
	}
}

// Asking changes nothing: neither what is there, nor when the device dies.
func TestAskingChangesNothing(t *testing.T) {
	p := made(t, 4)
	p.arm(3)
	for act := range 5 {
		for range 10 {
			p.is()
		}
		p.write(act%4, mixed(act))
	}
	p.is()
}

func TestDevicesDoNotDisturb(t *testing.T) {
	r := rand.New(rand.NewSource(5))
	for range 50 {
		var all []played
		for n := range 4 {
			all = append(all, made(t, 4+n))
		}
		for range 300 {
			p := all[r.Intn(len(all))]
			if r.Intn(20) == 0 {
				all = append(all, loaded(t, p.d.Pages()))
			}
			p.step(r)
		}
		for _, p := range all {
			p.is()
		}
	}
}

func TestCallsAtOnce(t *testing.T) {
	shared := made(t, 6)
	shared.write(2, page("a"))
	l := slices.Repeat([]string{page("q")}, 7)
	t.Run("at once", func(t *testing.T) {
		for i := range 8 {
			t.Run(strconv.Itoa(i), func(t *testing.T) {
				t.Parallel()
				p := loaded(t, l)
				r := rand.New(rand.NewSource(int64(i)))
				for range 100 {
					p.step(r)
					p.is()
					played{t, shared.d, shared.m}.is()
				}
			})
		}
	})
	shared.is()
}
