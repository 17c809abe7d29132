package device_test

import (
	"slices"
	"testing"

	"scrivener/api"
)

// notActs are calls that are no acts, on a device of four pages that lives.
func (p played) notActs() {
	p.Helper()
	p.is()
	p.write(4, blank)
	p.write(-1, blank)
	p.write(0, "short")
	p.arm(-1)
	p.crash(api.Keep{N: 4})
	p.crash(api.Keep{N: 0, Bytes: 257})
	p.is()
}

// Each act may be the one in which it dies, be it a write or a flush, with something pending or nothing.
func TestDiesInEachAct(t *testing.T) {
	for kinds := range 64 {
		for n := range 8 {
			p := made(t, 4)
			p.write(3, page("z"))
			p.arm(n)
			for act := range 6 {
				if !p.m.dead {
					p.notActs()
				}
				if kinds>>act&1 == 1 {
					p.flush()
				} else {
					p.write(act%3, mixed(act))
				}
				p.is()
				if dead := n > 0 && act+1 >= n; p.d.Dead() != dead {
					t.Fatalf("D4: Arm(%d): behind %d acts: Dead: %t", n, act+1, p.d.Dead())
				}
			}
			p.crash()
			p.is()
			p.flush()
			p.is()
		}
	}
}

func TestLaterArm(t *testing.T) {
	for first := range 6 {
		for between := 0; between < 4 && (first == 0 || between < first); between++ {
			for second := range 6 {
				p := made(t, 4)
				p.arm(first)
				for range between {
					p.flush()
				}
				p.arm(second)
				for range 7 {
					p.flush()
					p.is()
				}
				if p.d.Dead() != (second > 0) {
					t.Errorf("D4: Arm(%d), %d acts, Arm(%d): Dead: %t", first, between, second, p.d.Dead())
				}
			}
		}
	}
}

// A device may die again and again.
func TestDiesOften(t *testing.T) {
	p := made(t, 4)
	for round := range 30 {
		p.arm(1 + round%4)
		for i := range 3 {
			p.write(i, mixed(round+i))
		}
		p.flush()
		p.is()
		p.crash()
		p.is()
	}
}

func TestEachBeginning(t *testing.T) {
	for bytes := range 257 {
		p := loaded(t, []string{page("a"), mixed(0), page("c"), page("d")})
		p.write(1, mixed(128))
		p.crash(api.Keep{N: 0, Bytes: bytes})
		p.is()
		if s, e := p.d.Read(1); s != mixed(128)[:bytes]+mixed(0)[bytes:] || e != api.OK {
			t.Errorf("D6: of %d bytes: %q, %d", bytes, s, e)
		}
	}
}

// keeps are lists of up to so many elements, of numbers within and beyond.
func keeps(most int, of []api.Keep) [][]api.Keep {
	all := [][]api.Keep{nil}
	for from := 0; most > 0; most-- {
		to := len(all)
		for _, l := range all[from:to] {
			for _, k := range of {
				all = append(all, append(slices.Clone(l), k))
			}
		}
		from = to
	}
	return all
}

func TestCrashOfEachList(t *testing.T) {
	of := []api.Keep{{N: 0, Bytes: 7}, {N: 1, Bytes: 0}, {N: 1, Bytes: 200}, {N: 2, Bytes: 256}, {N: 3, Bytes: 1}, {N: 0, Bytes: 257}, {N: -1, Bytes: 1}}
	refused := 0
	for _, l := range keeps(4, of) {
		for armed := range 3 {
			p := loaded(t, []string{page("a"), page("b"), page("c"), page("d"), page("e")})
			for _, at := range []int{4, 0, 2} {
				p.write(at, mixed(at))
			}
			p.arm(armed)
			p.write(0, mixed(77))
			p.crash(l...)
			p.is()
			if len(p.m.writes) > 0 {
				refused++
			}
			// It is armed still, or not any more.
			p.flush()
			p.is()
		}
	}
	if refused < 1000 {
		t.Errorf("D6: only %d lists were refused", refused)
	}
}

func TestCrashOfOddNumbers(t *testing.T) {
	for _, dead := range []bool{false, true} {
		p := made(t, 4)
		p.write(1, page("a"))
		p.write(3, page("b"))
		if dead {
			p.arm(1)
			p.flush()
		}
		for _, n := range odd(2) {
			p.crash(api.Keep{N: n})
			p.crash(api.Keep{N: 0, Bytes: 9}, api.Keep{N: n, Bytes: 9})
			p.is()
		}
		for _, bytes := range odd(257) {
			p.crash(api.Keep{N: 0, Bytes: bytes})
			p.crash(api.Keep{N: 1, Bytes: 1}, api.Keep{N: 0, Bytes: bytes})
			p.is()
		}
		if len(p.d.Pending()) != 2 || p.d.Dead() != dead {
			t.Error("D6: a Crash that was refused has changed something")
		}
	}
}

// All pages that there may be, each with a beginning of its own.
func TestCrashOfAllPages(t *testing.T) {
	p := made(t, 4096)
	var l []api.Keep
	for i := range 4096 {
		at := 4095 - i*17%4096
		p.write(at, mixed(at))
		l = append(l, api.Keep{N: at, Bytes: i % 257})
	}
	p.is()
	p.crash(append(l, api.Keep{N: 4095})...)
	p.crash(append(l, api.Keep{N: 4096})...)
	p.is()
	p.crash(l...)
	p.is()
}
