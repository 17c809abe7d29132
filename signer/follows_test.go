package signer_test

import (
	"math/rand"
	"strconv"
	"testing"

	"scrivener/api"
	"scrivener/signer"
)

// What follows: G6.

// spent is what was ever signed under one key: of each index the text.
type spent struct {
	key   string
	texts map[int]string
}

// take holds a signature to all those ahead of it.
func (x spent) take(t *testing.T, text, s string) {
	t.Helper()
	i, e := signer.Index(s)
	if e != api.OK || signer.Verify(x.key, text, s) != api.OK {
		t.Fatalf("G6: what was signed is not accepted: %d, Index %d", e, i)
	}
	if other, ok := x.texts[i]; ok {
		t.Fatalf("G6: the key %d has signed %q and %q", i, other, text)
	}
	x.texts[i] = text
}

// numberOf is the number of what stands on a device, told without what is tested.
func numberOf(t *testing.T, p played) int {
	t.Helper()
	r, ok := stands(p.d)
	if !ok {
		t.Fatal("G6: nothing stands any more")
	}
	return r.number
}

// A signer of each number dies in each act, and each beginning of the page stays: the number is what it was, or one more.
func TestEachTear(t *testing.T) {
	numbers := map[int][]int{0: {0}, 1: {0, 1}, 2: {0, 1, 2, 3}, 8: {0, 1, 2, 15, 16, 127, 128, 253, 254, 255}}
	more := 0
	for height, l := range numbers {
		for _, number := range l {
			for act := 1; act <= 2; act++ {
				for bytes := -1; bytes <= 256; bytes++ {
					p := on(t, laidOut(4, height, number, counted()))
					o, _ := p.open()
					p.arm(act)
					o.sign("a")
					p.open()
					var l []api.Keep
					if act == 2 && bytes >= 0 {
						l = []api.Keep{{N: 0, Bytes: bytes}}
					}
					p.crash(l...)
					if _, e := o.sign("b"); e != api.ErrSignerBack {
						t.Fatalf("G4: in doubt: %d", e)
					}
					x, e := p.open()
					n := numberOf(t, p)
					if e != api.OK || x.s.Left() != 1<<height-n || n != number && n != number+1 {
						t.Fatalf("G6: of the number %d, in the act %d, %d bytes are kept: %d, then %d", number, act, bytes, e, n)
					}
					if act == 2 && bytes == 256 && n == number {
						t.Fatalf("G6: of the number %d the whole page is kept, and it is what it was", number)
					}
					if act == 1 && n != number {
						t.Fatalf("G6: the number %d is another one, though nothing was written", number)
					}
					more += n - number
				}
			}
		}
	}
	if more < 100 {
		t.Errorf("G6: only %d times one more", more)
	}
}

// A torn page is torn again, by each beginning of the same record or of the next one.
func TestTornTwice(t *testing.T) {
	some := []int{0, 1, 2, 3, 4, 5, 6, 36, 37, 38, 100, 218, 219, 221, 222, 223, 224, 225, 255, 256}
	for _, number := range []int{1, 2, 253, 254, 255} {
		for _, first := range some {
			for _, second := range some {
				p := on(t, laidOut(4, 8, number, counted()))
				was := number
				for _, bytes := range []int{first, second, first} {
					o, e := p.open()
					if e != api.OK || o.s.Left() != 256-was {
						t.Fatalf("G6: the number %d, %d and %d bytes are kept: %d", number, first, second, e)
					}
					if was == 256 {
						break
					}
					p.arm(2)
					o.sign("a")
					p.crash(api.Keep{N: 0, Bytes: bytes})
					n := numberOf(t, p)
					if n != was && n != was+1 || bytes == 256 && n == was {
						t.Fatalf("G6: the number %d, %d bytes are kept: %d", was, bytes, n)
					}
					was = n
				}
			}
		}
	}
}

// A device dies in a signature now and then, and some bytes of the page stay: each key has signed, or is lost, and none has signed twice.
func TestEachKeyIsSignedOrLost(t *testing.T) {
	for bytes := range 257 {
		p := empty(t)
		p.create(counted(), 2)
		x := spent{keyOf(counted(), 2), map[int]string{}}
		lost := 0
		for i := range 8 {
			o, _ := p.open()
			was := numberOf(t, p)
			if i%3 == 1 {
				p.arm(2)
			}
			text := "text " + strconv.Itoa(i)
			switch s, e := o.sign(text); e {
			case api.OK:
				x.take(t, text, s)
			case api.ErrDead:
				p.crash(api.Keep{N: 0, Bytes: bytes})
				lost += numberOf(t, p) - was
			}
			p.d.Crash(nil)
			p.twin.Crash(nil)
		}
		if len(x.texts)+lost != 4 || bytes < 200 && lost > 0 || bytes == 256 && lost == 0 {
			t.Errorf("G6: of %d bytes: %d keys have signed, and %d are lost", bytes, len(x.texts), lost)
		}
	}
}

// anyKeeps are beginnings of some of the pending writes.
func (p played) anyKeeps(r *rand.Rand) []api.Keep {
	var l []api.Keep
	for n := range p.d.Pending() {
		switch r.Intn(4) {
		case 0:
			l = append(l, api.Keep{N: n, Bytes: r.Intn(257)})
		case 1:
			l = append(l, api.Keep{N: n, Bytes: 218 + r.Intn(8)})
		case 2:
			l = append(l, api.Keep{N: n, Bytes: 256})
		}
	}
	return l
}

// Many signers of one device, which dies anywhere, take turns in any order.
func TestAnyCalls(t *testing.T) {
	r := rand.New(rand.NewSource(1))
	signed, deaths, back, used := 0, 0, 0, 0
	for round := range 200 {
		height := r.Intn(7)
		seed := text(r.Intn(5), 32)
		p := empty(t)
		for p.create(seed, height) == api.ErrDead {
			p.crash(p.anyKeeps(r)...)
		}
		first, _ := p.open()
		x, all, was := spent{keyOf(seed, height), map[int]string{}}, []one{first}, 0
		for i := range 60 {
			switch r.Intn(8) {
			case 0, 1, 2:
				p.arm(r.Intn(4))
			case 3, 4:
				if o, e := p.open(); e == api.OK {
					all = append(all, o)
				}
			case 5:
				if e := p.create(text(r.Intn(5), 32), r.Intn(5)); e == api.OK {
					t.Fatal("G6: another one was laid over it")
				}
			}
			o, text := all[max(0, len(all)-1-r.Intn(3))], strconv.Itoa(round)+" "+strconv.Itoa(i)
			switch s, e := o.sign(text); e {
			case api.OK:
				x.take(t, text, s)
				signed++
			case api.ErrDead:
				deaths++
				p.crash(p.anyKeeps(r)...)
			case api.ErrSignerBack:
				back++
			case api.ErrSignerUsed:
				used++
			}
			n := numberOf(t, p)
			if n < was || n > 1<<height || len(x.texts) > n {
				t.Fatalf("G6: the number was %d, and is %d; %d texts are signed", was, n, len(x.texts))
			}
			was = n
		}
		first.hasKey()
	}
	if signed < 1000 || deaths < 500 || back < 1000 || used < 500 {
		t.Errorf("G6: only %d signed, %d deaths, %d in doubt, %d with none left", signed, deaths, back, used)
	}
}

// Create dies again and again on a device of noughts: what stands at last is whole, and signs each key once.
func TestCreateDiesAgain(t *testing.T) {
	r := rand.New(rand.NewSource(2))
	other := 0
	for range 300 {
		p := empty(t)
		seeds := map[string]int{}
		e := api.ErrDead
		for i := 0; e == api.ErrDead; i++ {
			if i < 5 {
				p.arm(1 + r.Intn(3))
			}
			seed := text(r.Intn(3), 32)
			seeds[seed]++
			if e = p.create(seed, 1); e == api.ErrDead {
				p.crash(p.anyKeeps(r)...)
			}
		}
		p.crash()
		o, e := p.open()
		if e != api.OK || o.m.number != 0 || o.m.height != 1 || seeds[o.m.seed] == 0 {
			t.Fatalf("G6: behind deaths of Create: %d", e)
		}
		x := spent{keyOf(o.m.seed, 1), map[int]string{}}
		for i := range 2 {
			s, _ := o.sign(strconv.Itoa(i))
			x.take(t, strconv.Itoa(i), s)
		}
		other += len(seeds) - 1
	}
	if other < 100 {
		t.Errorf("G6: only %d times another seed", other)
	}
}

// A seed signs the same wherever it stands: so whoever lays it on two devices has two signers of one key.
func TestOneSeedOnTwoDevices(t *testing.T) {
	a, b := made(t, counted(), 2), made(t, counted(), 2)
	x, _ := a.sign("a")
	y, _ := b.sign("a")
	if a.s.Key() != b.s.Key() || x != y {
		t.Error("R2: of one seed another key, or another signature")
	}
}

// Of other seeds, or of other heights, the keys are others, and no signature is taken for another one's.
func TestKeysAreUnlike(t *testing.T) {
	keys := map[string]int{}
	count := 0
	for _, seed := range seeds() {
		for height := range 4 {
			o := made(t, seed, height)
			keys[o.s.Key()]++
			count++
			s, _ := o.sign("a")
			for _, other := range seeds() {
				if e := signer.Verify(keyOf(other, height), "a", s); (e == api.OK) != (other == seed) {
					t.Errorf("G5: a signature under another seed's key: %d", e)
				}
			}
		}
	}
	if len(keys) != count {
		t.Errorf("G3: of %d keys %d are unlike", count, len(keys))
	}
}
