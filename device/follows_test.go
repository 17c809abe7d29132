package device_test

import (
	"math/rand"
	"slices"
	"strings"
	"testing"

	"scrivener/api"
	"scrivener/device"
)

// step plays a call of any kind, mostly right ones.
func (p played) step(r *rand.Rand) {
	p.Helper()
	n := len(p.m.lasting)
	switch r.Intn(20) {
	case 0, 1:
		p.arm(r.Intn(9) - 1)
	case 2, 3:
		p.crash(p.anyKeeps(r)...)
	case 4:
		p.write(r.Intn(n+2)-1, page("x")[r.Intn(2):])
	case 5, 6, 7:
		p.flush()
	case 8:
		p.read(r.Intn(n+2) - 1)
	default:
		p.write(r.Intn(n), mixed(r.Intn(256)))
	}
}

// anyKeeps are some of the pending writes in any order, now and then with one that is not right.
func (p played) anyKeeps(r *rand.Rand) []api.Keep {
	var l []api.Keep
	for _, n := range r.Perm(len(p.m.pending())) {
		if r.Intn(3) > 0 {
			l = append(l, api.Keep{N: n, Bytes: r.Intn(257)})
		}
	}
	if r.Intn(5) == 0 {
		l = slices.Insert(l, r.Intn(len(l)+1), api.Keep{N: r.Intn(9) - 1, Bytes: r.Intn(300) - 1})
	}
	return l
}

func TestAnyCalls(t *testing.T) {
	r := rand.New(rand.NewSource(1))
	for range 300 {
		p := made(t, 4+r.Intn(6))
		for range 100 {
			p.step(r)
			p.is()
		}
	}
}

// A crash leaves of each page what lasted, or a beginning of what was written last and the rest of what lasted.
func TestWhatACrashLeaves(t *testing.T) {
	r := rand.New(rand.NewSource(2))
	crashes := 0
	for range 2000 {
		p := made(t, 4+r.Intn(3))
		for range 30 {
			p.step(r)
		}
		lasted, pending, l := p.d.Pages(), p.d.Pending(), p.anyKeeps(r)
		if p.d.Crash(l) != api.OK {
			continue
		}
		crashes++
		if p.d.Dead() || len(p.d.Pending()) > 0 {
			t.Fatal("D6: behind a crash it is dead, or something is pending")
		}
		for at, is := range p.d.Pages() {
			if s, e := p.d.Read(at); s != is || e != api.OK {
				t.Fatalf("D7: page %d reads otherwise than it lasts, %d", at, e)
			}
			if !mayStand(is, lasted[at], pending, at) {
				t.Fatalf("D7: page %d is neither what lasted nor a beginning of what was written", at)
			}
		}
	}
	if crashes < 1000 {
		t.Errorf("D7: only %d crashes", crashes)
	}
}

// mayStand tells whether a page may be so behind a crash.
func mayStand(is, lasted string, pending []api.Write, at int) bool {
	if is == lasted {
		return true
	}
	for _, w := range pending {
		for n := range 257 {
			if w.Page == at && strings.HasPrefix(is, w.Data[:n]) && is[n:] == lasted[n:] {
				return true
			}
		}
	}
	return false
}

// What was flushed is there behind any crash, if nothing was written to its page since.
func TestWhatWasFlushedIsThere(t *testing.T) {
	r := rand.New(rand.NewSource(3))
	for range 500 {
		p := made(t, 6)
		for at := range 6 {
			p.write(at, mixed(at+1))
		}
		p.flush()
		touched := map[int]int{}
		for range r.Intn(6) {
			at := r.Intn(6)
			touched[at]++
			p.write(at, page("x"))
		}
		if r.Intn(2) == 0 {
			p.arm(1)
			p.flush()
		}
		p.crash(p.anyKeeps(r)...)
		for at, is := range p.d.Pages() {
			if touched[at] == 0 && is != mixed(at+1) {
				t.Fatalf("D7: page %d was flushed, and is gone", at)
			}
		}
	}
}

// A device that is loaded of what lasts reads as the first one does behind a crash that keeps nothing.
func TestLoadedOfPages(t *testing.T) {
	r := rand.New(rand.NewSource(4))
	for range 1000 {
		p := made(t, 4+r.Intn(3))
		for range r.Intn(40) {
			p.step(r)
		}
		other, e := device.Load(p.d.Pages())
		p.crash()
		if e != api.OK || other.Size() != p.d.Size() || other.Dead() || len(other.Pending()) > 0 {
			t.Fatalf("D7: Load of Pages: %d", e)
		}
		q := played{t, other, modelOf(other.Pages())}
		for at := range p.d.Size() {
			one, e := p.d.Read(at)
			two, f := other.Read(at)
			if one != two || e != api.OK || f != api.OK {
				t.Fatalf("D7: page %d of both: %d, %d, the same: %t", at, e, f, one == two)
			}
		}
		// Neither is armed; from there on they go the same way.
		for range 10 {
			p.flush()
			q.flush()
		}
		p.is()
		q.is()
	}
}
