package store_test

import (
	"math/rand"
	"slices"
	"testing"

	"scrivener/api"
)

// tears are how much of a page may stay, at and beside each border of a head page; -1: it is not named.
var tears = []int{-1, 0, 1, 7, 8, 9, 10, 13, 14, 17, 18, 100, 247, 248, 249, 254, 255, 256}

// keepsOf are the lists that name some of so many pending writes, with beginnings out of some.
func keepsOf(pending int, of []int) [][]api.Keep {
	all := [][]api.Keep{nil}
	for n := range pending {
		var longer [][]api.Keep
		for _, l := range all {
			for _, bytes := range of {
				if bytes < 0 {
					longer = append(longer, l)
				} else {
					longer = append(longer, append(slices.Clone(l), api.Keep{N: n, Bytes: bytes}))
				}
			}
		}
		all = longer
	}
	return all
}

// beginning holds what is opened to the batches: a beginning of them, each whole, with all that were answered.
func (p *played) beginning(batches [][]string, answered int) int {
	p.Helper()
	if e := p.open(); e != api.OK {
		p.Fatalf("S5: Open: %d", e)
	}
	for n := answered; n <= len(batches); n++ {
		all := slices.Concat(batches[:n]...)
		if l, e := p.s.Entries(api.Span{End: p.s.Size()}); slices.Equal(l, all) && e == api.OK {
			return n
		}
	}
	p.Fatalf("S5: %d entries, which are no beginning of the batches with the first %d", p.s.Size(), answered)
	return 0
}

// Some batches, each act of them as the one in which the device dies, and all tears of up to three pages.
func TestEachDeath(t *testing.T) {
	batches := [][]string{{"one"}, {text(1, 200), "", text(2, 260)}, {"", "four", text(3, 1)}, {text(4, 120)}}
	stayed := 0
	for act := 1; ; act++ {
		deaths := 0
		for try := 0; ; try++ {
			p := laid(t, 7)
			p.arm(act)
			answered := 0
			for answered < len(batches) && p.append(batches[answered]...) == api.OK {
				answered++
			}
			if !p.d.Dead() {
				break
			}
			deaths++
			l := keepsOf(len(p.d.Pending()), tears)
			if len(l) > 1000 {
				l = keepsOf(len(p.d.Pending()), []int{-1, 0, 1, 8, 100, 255, 256})
			}
			if try == len(l) {
				break
			}
			p.crash(l[try]...)
			n := p.beginning(batches[:answered+1], answered)
			stayed += n - answered
			for _, batch := range batches[n:] {
				p.append(batch...)
			}
			p.beginning(batches, len(batches))
			p.is()
		}
		if deaths == 0 {
			break
		}
	}
	if stayed != len(batches) {
		t.Errorf("S5: a batch that was not answered was there %d times", stayed)
	}
}

// The device dies again and again, anywhere, in batches, and behind it the log goes on; so does what is laid at first.
func TestDiesOften(t *testing.T) {
	r := rand.New(rand.NewSource(2))
	deaths, kept := 0, 0
	for range 600 {
		p := on(t, slices.Repeat([]string{blank}, 4+r.Intn(8)))
		for p.format() != api.OK {
			p.crash(p.anyKeeps(r)...)
			if p.open() == api.OK {
				break
			}
			p.arm(r.Intn(3))
		}
		p.open()
		var batches [][]string
		for range 40 {
			if r.Intn(2) == 0 {
				p.arm(r.Intn(8))
			}
			batch := anyBatch(r)
			switch p.append(batch...) {
			case api.OK:
				batches = append(batches, batch)
			case api.ErrDead:
				deaths++
				p.is()
				p.crash(p.anyKeeps(r)...)
				all := append(slices.Clone(batches), batch)
				n := p.beginning(all, len(batches))
				kept += n - len(batches)
				batches = all[:n]
			}
		}
		p.is()
		p.d.Crash(nil)
		p.twin.Crash(nil)
		p.beginning(batches, len(batches))
	}
	if deaths < 2000 || kept < 50 {
		t.Errorf("S5: only %d deaths, behind %d of which the batch was there", deaths, kept)
	}
}

func anyBatch(r *rand.Rand) []string {
	var l []string
	for range 1 + r.Intn(4) {
		l = append(l, text(r.Intn(99), r.Intn(1+r.Intn(150))))
	}
	return l
}

// anyKeeps are beginnings of some of the pending writes.
func (p *played) anyKeeps(r *rand.Rand) []api.Keep {
	var l []api.Keep
	for n := range p.d.Pending() {
		switch r.Intn(4) {
		case 0:
			l = append(l, api.Keep{N: n, Bytes: r.Intn(257)})
		case 1:
			l = append(l, api.Keep{N: n, Bytes: 256})
		case 2:
			l = append(l, api.Keep{N: n, Bytes: max(0, tears[r.Intn(len(tears))])})
		}
	}
	return l
}

// Each beginning of a head page, and another one over that, where many bytes of the number change with the next one.
func TestTornHeads(t *testing.T) {
	for _, number := range []uint64{2, 254, 255, 256, 65534, 65535, 1<<32 - 1, 1<<32 - 2, 1<<56 - 1, 1<<61 - 2, 1<<62 - 4} {
		entries := []string{"a", "bc"}
		pages := laidOut(4, number, entries)
		pages[(number+1)%2] = headPage(number-1, 1, 3)
		for first := range 257 {
			for _, second := range tears {
				p := on(t, pages)
				p.open()
				batches := [][]string{entries, {"d"}}
				answered := 1
				for i, bytes := range []int{first, second} {
					p.arm(4)
					p.append(batches[len(batches)-1]...)
					if bytes < 0 {
						p.crash()
					} else {
						p.crash(api.Keep{N: 0, Bytes: bytes})
					}
					answered = p.beginning(batches, answered)
					if (answered == len(batches)) != (bytes == 256) {
						t.Fatalf("S5: of the number %d %d bytes stay: %d batches of %d", number, bytes, answered, len(batches))
					}
					if i == 0 {
						batches = append(batches[:answered:answered], []string{"", "e"})
					}
				}
				p.append("f")
				p.is()
			}
		}
	}
}

// What was opened says the same as what had appended.
func TestOpenedAgain(t *testing.T) {
	r := rand.New(rand.NewSource(3))
	for range 50 {
		p := laid(t, 4+r.Intn(60))
		for range 60 {
			p.append(anyBatch(r)...)
		}
		p.is()
		p.open()
		p.is()
	}
}
