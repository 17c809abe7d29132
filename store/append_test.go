package store_test

import (
	"strings"
	"testing"

	"scrivener/api"
)

// The data may end at each place of a page, and go on up to each.
func TestEachPlace(t *testing.T) {
	for ahead := range 260 {
		for _, length := range []int{0, 1, 2, 100, 250, 251, 252, 253, 254, 255, 256, 257, 258, 508, 509, 510, 511, 512, 513, 766, 1000} {
			for _, behind := range []int{0, 3} {
				l := []string{text(1, ahead)}
				if ahead > 1 {
					l = []string{text(1, ahead-2), ""}
				}
				p := laid(t, 8)
				p.append(l...)
				p.append(append([]string{text(2, length)}, make([]string, behind)...)...)
				p.is()
				p.open()
			}
		}
	}
}

// Behind the last new byte noughts stand up to the page's end, whatever stood there; the pages behind that stay.
func TestNoughtsBehind(t *testing.T) {
	for ahead := range 300 {
		entries := []string{text(1, ahead)}
		l := laidOut(6, 2, entries)
		data := string(standing(entries)) + strings.Repeat("\xff", 1024)
		for i := range 4 {
			l[2+i] = data[256*i : 256*i+256]
		}
		for _, length := range []int{0, 1, 200, 300} {
			p := on(t, l)
			p.open()
			if e := p.append(text(2, length)); e != api.OK {
				t.Fatalf("S3: Append: %d", e)
			}
			all := strings.Join(p.d.Pages()[2:], "")
			end := 4 + ahead + length
			border := (end + 255) / 256 * 256
			if strings.Trim(all[end:border], "\x00") != "" || strings.Trim(all[border:], "\xff") != "" {
				t.Fatalf("S3: behind %d bytes: %q", end, all[end:])
			}
		}
	}
}

func TestHowMany(t *testing.T) {
	for n := range 70 {
		for _, length := range []int{0, 1, 1000, 1001} {
			p := laid(t, 200)
			l := make([]string, n)
			for i := range l {
				l[i] = text(i, length)
			}
			want := api.OK
			switch {
			case n == 0 || n > 32:
				want = api.ErrStoreMany
			case length > 1000:
				want = api.ErrStoreLong
			}
			if e := p.append(l...); e != want {
				t.Errorf("S3: %d entries of %d bytes: %d, want %d", n, length, e, want)
			}
			p.is()
		}
	}
}

// One that is too long, at each place of a batch.
func TestOneTooLong(t *testing.T) {
	for at := range 32 {
		for _, length := range []int{1000, 1001, 1256, 1 << 16, 1<<16 + 3} {
			p := laid(t, 12)
			l := make([]string, 32)
			l[at] = text(at, length)
			want := api.OK
			if length > 1000 {
				want = api.ErrStoreLong
			}
			if e := p.append(l...); e != want {
				t.Errorf("S3: %d bytes at the place %d: %d, want %d", length, at, e, want)
			}
			p.is()
		}
	}
}

// Up to the last byte that is free, and no further.
func TestUpToTheEnd(t *testing.T) {
	for _, ahead := range []int{0, 1, 100, 253, 254, 255, 256, 400, 505, 506, 507} {
		for more := -3; more <= 3; more++ {
			p := laid(t, 4)
			p.append(text(1, ahead))
			free := p.s.Free()
			if free != 510-ahead {
				t.Fatalf("S4: Free: %d", free)
			}
			if free-2+more < 0 {
				continue
			}
			want := api.OK
			if more > 0 {
				want = api.ErrStoreFull
			}
			if e := p.append(text(2, free-2+more)); e != want {
				t.Errorf("S3: %d bytes, of %d that are free: %d, want %d", free+more, free, e, want)
			}
			p.is()
			p.open()
		}
	}
	// The two bytes of each length count, too.
	for n := 1; n <= 32; n++ {
		for free := 2*n - 2; free <= 2*n+2; free++ {
			p := laid(t, 4)
			p.append(text(1, 510-free))
			want := api.OK
			if 2*n > free {
				want = api.ErrStoreFull
			}
			if e := p.append(make([]string, n)...); e != want {
				t.Errorf("S3: %d entries without bytes, where %d are free: %d, want %d", n, free, e, want)
			}
		}
	}
}

// Of several errors the one that the promise names first.
func TestWhichError(t *testing.T) {
	long, full := text(1, 1001), text(2, 600)
	for _, c := range []struct {
		l    []string
		want api.Errno
	}{
		{nil, api.ErrStoreMany},
		{append(make([]string, 32), long), api.ErrStoreMany},
		{append(make([]string, 32), full), api.ErrStoreMany},
		{[]string{full, long}, api.ErrStoreLong},
		{[]string{long, full}, api.ErrStoreLong},
		{[]string{"a", full}, api.ErrStoreFull},
		{[]string{"a"}, api.OK},
	} {
		p := laid(t, 4)
		p.append("z")
		if e := p.append(c.l...); e != c.want {
			t.Errorf("S3: %d, want %d", e, c.want)
		}
		p.is()
		p.arm(1)
		p.d.Flush()
		p.twin.Flush()
		// The device is dead, but the store has not asked it yet.
		p.is()
		if e := p.append(c.l...); e != api.ErrDead || !p.s.Doubt() {
			t.Errorf("S3: of a dead device: %d, Doubt %t", e, p.s.Doubt())
		}
		p.is()
		p.crash()
		if e := p.append(c.l...); e != api.ErrDead || !p.s.Doubt() {
			t.Errorf("S3: in doubt: %d, Doubt %t", e, p.s.Doubt())
		}
		p.is()
		p.open()
		p.append("y")
		p.is()
	}
}

// A store whose device has died and lives again, and that has not asked it meanwhile, is in no doubt.
func TestNotAsked(t *testing.T) {
	p := laid(t, 4)
	p.append("a")
	p.arm(1)
	p.d.Flush()
	p.twin.Flush()
	p.is()
	p.crash()
	if e := p.append("b"); e != api.OK {
		t.Errorf("S3: Append: %d", e)
	}
	p.is()
}

// In doubt, also where the numbers are wrong.
func TestDoubt(t *testing.T) {
	for act := 1; act <= 4; act++ {
		p := laid(t, 5)
		p.append("a", "b")
		tree, size, free := p.s.Tree(), p.s.Size(), p.s.Free()
		root, _ := tree.Root(2)
		p.arm(act)
		if e := p.append("c"); e != api.ErrDead {
			t.Fatalf("S3: it dies in the act %d: %d", act, e)
		}
		for range 2 {
			if p.s.Tree() != tree || tree.Size() != 2 || p.s.Size() != size || p.s.Free() != free || !p.s.Doubt() {
				t.Errorf("S4: in doubt: Size %d, Free %d, Doubt %t", p.s.Size(), p.s.Free(), p.s.Doubt())
			}
			if again, e := tree.Root(2); again != root || e != api.OK {
				t.Errorf("S4: in doubt: another root, %d", e)
			}
			for _, i := range append(odd(2), 0, 1) {
				if x, e := p.s.Entry(i); x != "" || e != api.ErrDead {
					t.Errorf("S4: Entry(%d) in doubt: %q, %d", i, x, e)
				}
				for _, x := range []api.Span{{End: i}, {Begin: i}, {Begin: i, End: 2}} {
					if l, e := p.s.Entries(x); len(l) > 0 || e != api.ErrDead {
						t.Errorf("S4: Entries(%v) in doubt: %d, %d", x, len(l), e)
					}
				}
			}
			for _, l := range [][]string{nil, {""}, {text(1, 1001)}, make([]string, 33)} {
				if n, e := p.s.Append(l); n != 0 || e != api.ErrDead {
					t.Errorf("S3: Append in doubt: %d, %d", n, e)
				}
			}
			p.same("S3")
			if p.d.Dead() {
				p.crash()
			}
		}
		// What is opened anew has none.
		p.open()
		p.append("d")
		p.is()
	}
}

// A batch of many pages, in each act of which the device dies.
func TestDiesInEachAct(t *testing.T) {
	for act := 1; act <= 130; act++ {
		p := laid(t, 135)
		p.append(text(1, 77))
		l := make([]string, 32)
		for i := range l {
			l[i] = text(i, 1000-i)
		}
		p.arm(act)
		want := api.ErrDead
		if act > 127 { // 124 pages, a flush, the head, a flush
			want = api.OK
		}
		if e := p.append(l...); e != want {
			t.Errorf("S3: it dies in the act %d: %d, want %d", act, e, want)
		}
		p.is()
		if p.d.Dead() {
			p.crash()
		}
		p.open()
	}
}
