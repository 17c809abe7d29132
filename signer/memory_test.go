package signer_test

import (
	"math/rand"
	"runtime"
	"slices"
	"strconv"
	"testing"
	"time"

	"scrivener/api"
	"scrivener/signer"
)

// ended waits until no more goroutines are there than before: one that has told all that it had may be on its way out for a moment.
func ended(before int) bool {
	for range 1000 {
		if runtime.NumGoroutine() <= before {
			return true
		}
		time.Sleep(time.Millisecond)
	}
	return false
}

func TestGoroutinesHaveEnded(t *testing.T) {
	before := runtime.NumGoroutine()
	for height := range 9 {
		o := made(t, counted(), height)
		for i := range 3 {
			if i != height%3 {
				o.s.Key()
			}
			s, e := o.s.Sign("a")
			signer.Verify(o.s.Key(), "a", s)
			signer.Index(s)
			if e != api.OK && e != api.ErrSignerUsed {
				t.Fatalf("G4: Sign: %d", e)
			}
		}
		o.d.Arm(1)
		o.s.Sign("a")
		o.s.Sign("a")
		signer.Open(o.d)
		signer.Create(o.d, counted(), 1)
		if !ended(before) {
			t.Fatalf("R2: of the height %d: %d goroutines were there, now %d", height, before, runtime.NumGoroutine())
		}
	}
}

// How many goroutines run at once is not to be seen in an answer.
func TestHowGoroutinesRun(t *testing.T) {
	defer runtime.GOMAXPROCS(runtime.GOMAXPROCS(0))
	for _, n := range []int{1, 2, 3, 64} {
		runtime.GOMAXPROCS(n)
		for height := range 8 {
			o := made(t, counted(), height)
			o.sign("a")
			o.hasKey()
			o.sign("b")
		}
	}
}

// The key is worked out once: to ask it again takes no time.
func TestKeyIsWorkedOutOnce(t *testing.T) {
	o := made(t, counted(), 8)
	begin := time.Now()
	key := o.s.Key()
	first := time.Since(begin)
	begin = time.Now()
	for range 100 {
		if o.s.Key() != key {
			t.Fatal("G3: Key: another one")
		}
	}
	if again := time.Since(begin); again > 20*first {
		t.Errorf("Ways: the key takes %v, and a hundred times more %v", first, again)
	}
}

// Asking changes nothing, and asks no device.
func TestAskingChangesNothing(t *testing.T) {
	o := made(t, counted(), 2)
	for i := range 6 {
		o.arm(3)
		for range 5 {
			o.is()
			o.hasKey()
			o.same("G3")
		}
		o.sign(strconv.Itoa(i))
		if o.d.Dead() {
			t.Fatal("G3: it was an act")
		}
	}
	o.arm(1)
	o.flush()
	for range 5 {
		o.is()
		o.hasKey()
		o.same("G3")
	}
}

// Verify and Index hang on nothing that was asked ahead of them.
func TestNothingIsKept(t *testing.T) {
	key, s := keyOf(counted(), 2), signature(counted(), 2, 3, "a")
	r := rand.New(rand.NewSource(3))
	for _, seed := range seeds() {
		o := made(t, seed, 1)
		x, _ := o.sign("a")
		for _, s := range append(twisted(r, x), x) {
			isVerify(t, o.s.Key(), "a", s)
			isIndex(t, s)
		}
		if isVerify(t, key, "a", s) != api.OK || isVerify(t, key, "b", s) != api.ErrSignerBad {
			t.Fatal("R2: what was answered once is answered otherwise now")
		}
		isIndex(t, s)
	}
}

// A signer goes on by what its own device says, whatever becomes of others.
func TestSignersDoNotDisturb(t *testing.T) {
	r := rand.New(rand.NewSource(4))
	for range 20 {
		var all []one
		for n := range 5 {
			all = append(all, made(t, text(n%3, 32), n%4))
		}
		for i := range 40 {
			o := all[r.Intn(len(all))]
			if r.Intn(4) == 0 {
				o.arm(r.Intn(4))
			}
			o.sign(strconv.Itoa(i))
			if o.d.Dead() {
				o.crash(o.anyKeeps(r)...)
			}
		}
		for _, o := range all {
			o.is()
			o.hasKey()
		}
	}
}

// What a device was told does not change when it is written over: a signer keeps what it has read.
func TestKeepsWhatItRead(t *testing.T) {
	p := on(t, laidOut(4, 2, 1, counted()))
	o, _ := p.open()
	for at := range 4 {
		p.write(at, page("x"))
	}
	p.flush()
	o.is()
	o.hasKey()
	if _, e := o.sign("a"); e != api.ErrSignerBack {
		t.Errorf("G4: nothing stands: %d", e)
	}
	o.hasKey()
}

func TestCallsAtOnce(t *testing.T) {
	shared := made(t, counted(), 5)
	s, _ := shared.sign("a")
	key := keyOf(counted(), 5)
	fresh, _ := shared.open()
	t.Run("at once", func(t *testing.T) {
		for i := range 8 {
			t.Run(strconv.Itoa(i), func(t *testing.T) {
				t.Parallel()
				o := made(t, text(i, 32), 3)
				for j := range 8 {
					o.sign(strconv.Itoa(j))
					if fresh.s.Key() != key || fresh.s.Left() != 31 || fresh.s.Doubt() {
						t.Error("R2: asked by many at once: another answer")
					}
					if isVerify(t, key, "a", s) != api.OK {
						t.Error("R2: verified by many at once: it is refused")
					}
					isIndex(t, s)
				}
				o.hasKey()
			})
		}
	})
	if !slices.Equal(shared.d.Pages(), shared.twin.Pages()) {
		t.Error("R2: other pages last")
	}
}
