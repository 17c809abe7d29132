package store_test

import (
	"math/rand"
	"slices"
	"strconv"
	"testing"

	"scrivener/api"
)

// overwrite writes into a list and all its spare room.
func overwrite[E any](l []E, with E) {
	l = l[:cap(l)]
	for i := range l {
		l[i] = with
	}
}

func TestListsAreNew(t *testing.T) {
	p := laid(t, 12)
	for i := range 20 {
		p.append(text(i, i*3), "")
		for _, x := range []api.Span{{End: p.s.Size()}, {Begin: i, End: i + 1}, {Begin: i, End: i}, {Begin: 1, End: p.s.Size() - 1}} {
			l, _ := p.s.Entries(x)
			again, _ := p.s.Entries(x)
			was := slices.Clone(again)
			overwrite(l, "over")
			if !slices.Equal(again, was) {
				t.Errorf("R2: two lists of Entries(%v) share memory", x)
			}
			p.is()
		}
	}
	p.open()
	p.is()
}

// A list that came out stays as it is when the store goes on.
func TestListsStay(t *testing.T) {
	p := laid(t, 12)
	p.append("a", "b", "c")
	l, _ := p.s.Entries(api.Span{Begin: 1, End: 3})
	for i := range 20 {
		p.append(text(i, i))
	}
	if !slices.Equal(l, []string{"b", "c"}) {
		t.Errorf("R2: %q", l)
	}
}

func TestListsThatAreHandedIn(t *testing.T) {
	p := laid(t, 5)
	for i, in := range [][]string{{"a"}, {"b", ""}, {text(1, 1001)}, {text(2, 1000)}, {}, {"c", "d", text(3, 400)}} {
		room := append(slices.Clone(in), "behind", "behind")
		l := room[:len(in)]
		if i == 5 {
			p.arm(3)
		}
		p.append(l...)
		if !slices.Equal(l, in) || !slices.Equal(room[len(in):], []string{"behind", "behind"}) {
			t.Errorf("R2: Append has written into the list %d", i)
		}
		p.m.entries = slices.Clone(p.m.entries)
		overwrite(l, "over")
		p.is()
	}
}

// Asking changes nothing, and is no act.
func TestAskingChangesNothing(t *testing.T) {
	p := laid(t, 6)
	p.append("a", "b")
	p.arm(5)
	for range 20 {
		p.is()
		p.same("S4")
	}
	if e := p.append("c"); e != api.OK {
		t.Errorf("S4: it was an act: %d", e)
	}
	for range 20 {
		p.is()
	}
	if e := p.append("d"); e != api.ErrDead {
		t.Errorf("S4: Append: %d", e)
	}
}

// An append that is refused changes nothing.
func TestRefusedChangesNothing(t *testing.T) {
	p := laid(t, 4)
	p.append("a")
	p.arm(5)
	for _, l := range [][]string{nil, make([]string, 33), {text(1, 1001)}, {text(2, 600)}} {
		if e := p.append(l...); e == api.OK {
			t.Error("S3: it is not refused")
		}
		p.is()
	}
	if e := p.append("b"); e != api.OK {
		t.Errorf("S3: what is refused was an act: %d", e)
	}
	p.is()
}

func TestStoresDoNotDisturb(t *testing.T) {
	r := rand.New(rand.NewSource(4))
	for range 10 {
		var all []*played
		for n := range 5 {
			all = append(all, laid(t, 6+n))
		}
		for range 60 {
			p := all[r.Intn(len(all))]
			if p.append(anyBatch(r)...) == api.OK && r.Intn(5) == 0 {
				p.open()
			}
		}
		for _, p := range all {
			p.is()
		}
	}
}

func TestCallsAtOnce(t *testing.T) {
	shared := laid(t, 8)
	shared.append("a", text(1, 300))
	batch := []string{"x", text(2, 9)}
	t.Run("at once", func(t *testing.T) {
		for i := range 8 {
			t.Run(strconv.Itoa(i), func(t *testing.T) {
				t.Parallel()
				p := laid(t, 9)
				r := rand.New(rand.NewSource(int64(i)))
				for range 20 {
					p.append(batch...)
					p.append(anyBatch(r)...)
					p.is()
					again := *shared
					again.T = t
					again.is()
				}
			})
		}
	})
	shared.is()
}
