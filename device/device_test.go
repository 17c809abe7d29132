package device_test

import (
	"math"
	"slices"
	"strings"
	"testing"

	"scrivener/api"
	"scrivener/device"
)

func TestNew(t *testing.T) {
	for pages := 4; pages <= 20; pages++ {
		made(t, pages)
	}
	for _, pages := range []int{255, 256, 257, 4095, 4096} {
		made(t, pages)
	}
	for _, pages := range []int{math.MinInt, -4096, -4, -1, 0, 1, 2, 3, 4097, 4098, 5000, 1 << 16, 1<<32 + 4, 1 << 62, math.MaxInt} {
		if d, e := device.New(pages); d != nil || e != api.ErrArg {
			t.Errorf("D1: New(%d): a device: %t, %d", pages, d != nil, e)
		}
	}
}

func TestLoad(t *testing.T) {
	for _, pages := range []int{4, 5, 17, 4095, 4096} {
		var l []string
		for i := range pages {
			l = append(l, mixed(i))
		}
		p := loaded(t, l)
		p.write(pages-1, page("x"))
		p.is()
		p.flush()
		p.is()
	}
}

func TestLoadOfWrongPages(t *testing.T) {
	for _, pages := range []int{0, 1, 2, 3, 4097, 5000} {
		for _, one := range []string{blank, "", "x", blank + "x"} {
			if d, e := device.Load(slices.Repeat([]string{one}, pages)); d != nil || e != api.ErrArg {
				t.Errorf("D1: Load of %d pages of %d bytes: a device: %t, %d", pages, len(one), d != nil, e)
			}
		}
	}
	for _, size := range []int{0, 1, 128, 255, 257, 512, 4096} {
		for at := range 5 {
			l := slices.Repeat([]string{blank}, 5)
			l[at] = strings.Repeat("x", size)
			if d, e := device.Load(l); d != nil || e != api.ErrDeviceSize {
				t.Errorf("D1: Load with %d bytes in page %d: a device: %t, %d", size, at, d != nil, e)
			}
		}
	}
}

func TestFirstExample(t *testing.T) {
	p := made(t, 4)
	if e := p.d.Write(2, page("x")); e != api.OK {
		t.Errorf("example 1: Write: %d", e)
	}
	if s, e := p.d.Read(2); s != page("x") || e != api.OK {
		t.Errorf("example 1: Read: %q, %d", s, e)
	}
	if !slices.Equal(p.d.Pages(), []string{blank, blank, blank, blank}) {
		t.Error("example 1: what is written lasts already")
	}
	if e := p.d.Write(4, page("x")); e != api.ErrDevicePage {
		t.Errorf("example 1: Write(4): %d", e)
	}
	if e := p.d.Write(1, "x"); e != api.ErrDeviceSize {
		t.Errorf("example 1: Write(1, \"x\"): %d", e)
	}
	if e := p.d.Crash([]api.Keep{{N: 0, Bytes: 3}}); e != api.OK {
		t.Errorf("example 1: Crash: %d", e)
	}
	if s, e := p.d.Read(2); s != "xxx"+blank[:253] || e != api.OK {
		t.Errorf("example 1: Read behind that: %q, %d", s, e)
	}
	if e := p.d.Crash([]api.Keep{{N: 0, Bytes: 3}}); e != api.ErrDeviceKeep {
		t.Errorf("example 1: Crash again: %d", e)
	}
}

func TestSecondExample(t *testing.T) {
	p := made(t, 4)
	if e := p.d.Arm(2); e != api.OK {
		t.Errorf("example 2: Arm: %d", e)
	}
	if e := p.d.Write(0, page("x")); e != api.OK {
		t.Errorf("example 2: Write: %d", e)
	}
	if e := p.d.Flush(); e != api.ErrDead {
		t.Errorf("example 2: Flush: %d", e)
	}
	if s, e := p.d.Read(0); s != "" || e != api.ErrDead {
		t.Errorf("example 2: Read: %q, %d", s, e)
	}
	if e := p.d.Arm(1); !p.d.Dead() || e != api.ErrDead {
		t.Errorf("example 2: Dead: %t, Arm: %d", p.d.Dead(), e)
	}
	if e := p.d.Crash(nil); e != api.OK || p.d.Dead() {
		t.Errorf("example 2: Crash of nothing: %d, Dead: %t", e, p.d.Dead())
	}
}

func TestPendingByRisingPages(t *testing.T) {
	p := made(t, 300)
	for _, at := range []int{299, 0, 256, 17, 255, 9, 10, 100, 2, 1, 17, 299} {
		p.write(at, mixed(at))
		p.is()
	}
	p.write(17, page("x"))
	p.is()
	p.flush()
	p.is()
	p.write(256, page("y"))
	p.is()
}

// A page that is written as it was is pending all the same.
func TestPendingOfTheSameBytes(t *testing.T) {
	p := made(t, 4)
	p.write(3, blank)
	p.is()
	if l := p.d.Pending(); len(l) != 1 || l[0] != (api.Write{Page: 3, Data: blank}) {
		t.Errorf("D3: %d writes are pending", len(l))
	}
	p.crash(api.Keep{N: 0, Bytes: 256})
	p.is()
}

func TestWrongWrites(t *testing.T) {
	p := made(t, 4)
	p.write(1, page("a"))
	p.flush()
	p.write(2, page("b"))
	p.arm(2)
	for _, data := range []string{"", "x", blank[1:], blank + "x", blank + blank, page("c")} {
		for _, at := range append(odd(4), 0, 1, 2, 3) {
			if at < 0 || at > 3 || len(data) != 256 {
				p.write(at, data)
			}
		}
		p.is()
	}
	for _, at := range odd(4) {
		p.read(at)
	}
	// None of these was an act: only the second one from here on is the one in which it dies.
	p.write(3, page("d"))
	p.is()
	p.flush()
	p.is()
	if !p.d.Dead() {
		t.Error("D4: it lives")
	}
}

func TestDeadAheadOfAll(t *testing.T) {
	p := made(t, 4)
	p.write(1, page("a"))
	p.arm(1)
	p.write(2, page("b"))
	p.is()
	for _, at := range append(odd(4), 0, 1, 2, 3) {
		if s, e := p.d.Read(at); s != "" || e != api.ErrDead {
			t.Errorf("D2: Read(%d): %q, %d", at, s, e)
		}
		for _, data := range []string{"", "x", page("c")} {
			if e := p.d.Write(at, data); e != api.ErrDead {
				t.Errorf("D3: Write(%d, %d bytes): %d", at, len(data), e)
			}
		}
		if e := p.d.Arm(at); e != api.ErrDead {
			t.Errorf("D4: Arm(%d): %d", at, e)
		}
		if e := p.d.Flush(); e != api.ErrDead {
			t.Errorf("D3: Flush: %d", e)
		}
		p.is()
	}
}

// What New and Load give beside an error is no device; no call on it panics.
func TestNoDevice(t *testing.T) {
	d, _ := device.New(3)
	l, _ := device.Load(nil)
	for _, d := range []*device.Device{d, l} {
		s, e := d.Read(0)
		if s != "" || e == api.OK || d.Write(0, blank) == api.OK || d.Flush() == api.OK || d.Arm(0) == api.OK {
			t.Error("R1: no device, and it answers that all went well")
		}
		if d.Size() != 0 || len(d.Pages()) != 0 || len(d.Pending()) != 0 {
			t.Error("R1: no device, and it has pages")
		}
		if e := d.Crash([]api.Keep{{}}); e != api.ErrDeviceKeep {
			t.Errorf("D6: Crash of a write that no device has: %d", e)
		}
		if e := d.Crash(nil); e != api.ErrArg || !d.Dead() {
			t.Errorf("R1: Crash of no device: %d, Dead: %t", e, d.Dead())
		}
	}
}

func TestArmOfOddNumbers(t *testing.T) {
	for _, n := range []int{-1, -2, math.MinInt, math.MinInt + 1} {
		p := made(t, 4)
		p.arm(n)
		p.flush()
		p.is()
		// With an error nothing is changed: it dies where it would have.
		p.arm(2)
		p.arm(n)
		p.flush()
		p.arm(n)
		p.flush()
		p.is()
		if !p.d.Dead() {
			t.Errorf("D4: it lives, by Arm(%d)", n)
		}
	}
	for _, n := range []int{math.MaxInt, math.MaxInt - 1, 1 << 32, 1000} {
		p := made(t, 4)
		p.arm(n)
		for range 999 {
			p.flush()
		}
		p.is()
		p.flush()
		p.is()
	}
}
