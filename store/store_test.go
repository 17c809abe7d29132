package store_test

import (
	"slices"
	"strings"
	"testing"

	"scrivener/api"
	"scrivener/device"
	"scrivener/store"
)

func TestFirstExample(t *testing.T) {
	d, _ := device.New(4)
	d.Arm(3)
	if e := store.Format(d); e != api.OK {
		t.Fatalf("example 1: Format: %d", e)
	}
	if e := d.Flush(); e != api.ErrDead {
		t.Errorf("example 1: Format was not two acts: %d", e)
	}
	d.Crash(nil)
	if e := store.Format(d); e != api.ErrStoreThere {
		t.Errorf("example 1: Format again: %d", e)
	}
	s, e := store.Open(d)
	if e != api.OK || s.Size() != 0 || s.Free() != 512 {
		t.Fatalf("example 1: Open: %d, Size %d, Free %d", e, s.Size(), s.Free())
	}
	if n, e := s.Append([]string{"ab", ""}); n != 0 || e != api.OK {
		t.Errorf("example 1: Append: %d, %d", n, e)
	}
	p := d.Pages()
	if !strings.HasPrefix(p[2], "\x00\x02ab\x00\x00") || s.Size() != 2 || s.Free() != 506 || p[0] != headPage(2, 2, 6) {
		t.Errorf("example 1: Size %d, Free %d, pages %q", s.Size(), s.Free(), p)
	}
	if n, e := s.Append(nil); n != 0 || e != api.ErrStoreMany {
		t.Errorf("example 1: Append of none: %d, %d", n, e)
	}
}

func TestSecondExample(t *testing.T) {
	p := laid(t, 4)
	p.append("a", "b")
	was := p.d.Pages()
	if e := p.append(strings.Repeat("x", p.s.Free()-1)); e != api.ErrStoreFull {
		t.Errorf("example 2: Append: %d", e)
	}
	if !slices.Equal(p.d.Pages(), was) || len(p.d.Pending()) > 0 {
		t.Error("example 2: something is written")
	}
	p.is()
}

func TestThirdExample(t *testing.T) {
	p := laid(t, 4)
	p.append("a")
	p.arm(4)
	if e := p.append("b", "c"); e != api.ErrDead {
		t.Errorf("example 3: Append: %d", e)
	}
	p.crash(api.Keep{N: 0, Bytes: 100})
	if e := p.open(); e != api.OK || p.s.Size() != 1 {
		t.Errorf("example 3: Open: %d, Size %d", e, p.s.Size())
	}
}

func TestFormat(t *testing.T) {
	for _, pages := range []int{4, 5, 17, 4096} {
		p := on(t, slices.Repeat([]string{blank}, pages))
		if e := p.open(); e != api.ErrStoreForm {
			t.Errorf("S2: of noughts: %d", e)
		}
		p.format()
		if p.d.Pages()[1] != headPage(1, 0, 0) {
			t.Error("S1: another head page")
		}
		if e := p.format(); e != api.ErrStoreThere {
			t.Errorf("S1: Format again: %d", e)
		}
		p.open()
		if p.s.Size() != 0 || p.s.Free() != 256*(pages-2) || p.s.Doubt() {
			t.Errorf("S4: of %d pages: Size %d, Free %d", pages, p.s.Size(), p.s.Free())
		}
		p.append("x")
		if e := p.format(); e != api.ErrStoreThere {
			t.Errorf("S1: Format of a log with an entry: %d", e)
		}
	}
}

// What stands on the other pages stays, and what is pending of them lasts from then on.
func TestFormatOfOtherPages(t *testing.T) {
	for _, pages := range [][]string{
		{page("a"), page("b"), page("c"), page("d")},
		{headPage(3, 0, 0), headPage(4, 0, 0), page("c"), page("d")},
		{headPage(2, 1, 3), headPage(7, 1, 2), page("\x01"), page("\x05")},
		{headPage(1<<62+2, 0, 0), headPage(1<<62+1, 0, 0), blank, blank, page("q")},
	} {
		p := on(t, pages)
		last := len(pages) - 1
		for _, d := range []*device.Device{p.d, p.twin} {
			d.Write(last, text(9, 256))
		}
		was := p.d.Pages()
		want := api.OK
		if _, _, there := right(p.twin, 0); there {
			want = api.ErrStoreThere
		}
		if e := p.format(); e != want {
			t.Errorf("S1: Format: %d, want %d", e, want)
		}
		if want == api.OK {
			was[1], was[last] = headPage(1, 0, 0), text(9, 256)
		}
		if !slices.Equal(p.d.Pages(), was) {
			t.Error("S1: Format has changed another page")
		}
		p.open()
		p.is()
	}
}

func TestFormatDies(t *testing.T) {
	for act := 1; act <= 2; act++ {
		for bytes := -1; bytes <= 256; bytes++ {
			p := on(t, slices.Repeat([]string{blank}, 4))
			p.arm(act)
			if e := p.format(); e != api.ErrDead {
				t.Errorf("S1: it dies in the act %d: %d", act, e)
			}
			if e := p.open(); e != api.ErrDead {
				t.Errorf("S2: of a dead device: %d", e)
			}
			if e := p.format(); e != api.ErrDead {
				t.Errorf("S1: of a dead device: %d", e)
			}
			var l []api.Keep
			if act == 2 && bytes >= 0 {
				l = []api.Keep{{N: 0, Bytes: bytes}}
			}
			p.crash(l...)
			want := api.ErrStoreForm
			if act == 2 && bytes == 256 {
				want = api.OK
			}
			if e := p.open(); e != want {
				t.Errorf("S1: of %d bytes of the head: %d, want %d", bytes, e, want)
			}
			p.format()
			if e := p.open(); e != api.OK {
				t.Errorf("S1: laid again: %d", e)
			}
		}
	}
}

// A dead device is told ahead of a log that is there, and ahead of one that is not.
func TestDeadAheadOfAll(t *testing.T) {
	for _, pages := range [][]string{slices.Repeat([]string{blank}, 4), laidOut(4, 5, []string{"a"})} {
		p := on(t, pages)
		p.arm(1)
		p.d.Flush()
		p.twin.Flush()
		if e := p.format(); e != api.ErrDead {
			t.Errorf("S1: Format: %d", e)
		}
		if e := p.open(); e != api.ErrDead {
			t.Errorf("S2: Open: %d", e)
		}
	}
}

// What New gives beside an error is no device, what Open gives no store; no call on them panics.
func TestNoDeviceNoStore(t *testing.T) {
	d, _ := device.New(3)
	if e := store.Format(d); e != api.ErrDead {
		t.Errorf("S1: Format of no device: %d", e)
	}
	s, e := store.Open(d)
	if s != nil || e != api.ErrDead {
		t.Errorf("S2: Open of no device: %d", e)
	}
	for _, l := range [][]string{nil, {"a"}, make([]string, 33)} {
		if n, e := s.Append(l); n != 0 || e == api.OK {
			t.Errorf("R1: Append to no store: %d, %d", n, e)
		}
	}
	if x, e := s.Entry(0); x != "" || e == api.OK {
		t.Errorf("R1: Entry of no store: %q, %d", x, e)
	}
	if l, e := s.Entries(api.Span{}); len(l) != 0 || e == api.OK {
		t.Errorf("R1: Entries of no store: %d, %d", len(l), e)
	}
	if s.Size() != 0 || s.Free() != 0 || !s.Doubt() || s.Tree().Size() != 0 {
		t.Error("R1: no store, and it has something")
	}
}

func TestOpenWritesNothing(t *testing.T) {
	p := on(t, laidOut(5, 8, []string{"a", "", text(1, 300)}))
	p.arm(1)
	for range 10 {
		p.open()
	}
	if p.d.Dead() || len(p.d.Pending()) > 0 {
		t.Error("S2: Open was an act")
	}
	if e := p.append("b"); e != api.ErrDead {
		t.Errorf("S2: Open was an act: %d", e)
	}
}

// A log that is pending is there, too.
func TestOpenOfPendingPages(t *testing.T) {
	p := on(t, laidOut(5, 3, []string{"a"}))
	for i, data := range laidOut(5, 4, []string{"a", text(2, 290)}) {
		if i != 1 {
			p.d.Write(i, data)
			p.twin.Write(i, data)
		}
	}
	if p.open(); p.s.Size() != 2 {
		t.Errorf("S2: Size %d", p.s.Size())
	}
	p.append(text(3, 100))
	p.crash()
	if p.open(); p.s.Size() != 3 {
		t.Errorf("S2: Size %d", p.s.Size())
	}
}

func TestOddNumbers(t *testing.T) {
	p := laid(t, 6)
	p.append("a", "b", text(4, 400))
	for _, i := range odd(3) {
		p.entry(i)
		for _, j := range append(odd(3), 0, 1, 2) {
			p.entries(api.Span{Begin: i, End: j})
			p.entries(api.Span{Begin: j, End: i})
		}
	}
	for i := range 5 {
		for j := range 5 {
			p.entries(api.Span{Begin: i, End: j})
		}
	}
}

func TestManyBatches(t *testing.T) {
	p := laid(t, 400)
	for i := 0; ; i++ {
		l := make([]string, 1+i*5%32)
		for k := range l {
			l[k] = text(i, (i*13+k*k*29)%(1+i%1001))
		}
		if p.append(l...) != api.OK {
			break
		}
		if i%50 == 0 {
			p.is()
		}
	}
	p.is()
	if p.s.Size() < 1000 {
		t.Errorf("S3: only %d entries", p.s.Size())
	}
	p.open()
	p.is()
}

// All the pages that there may be, with as many entries as have room, and as few.
func TestGreatest(t *testing.T) {
	if testing.Short() {
		t.Skip("long")
	}
	most := 4094 * 256 / 2
	pages := slices.Repeat([]string{blank}, 4096)
	pages[0] = headPage(10, uint32(most), uint32(2*most))
	d, _ := device.Load(pages)
	s, e := store.Open(d)
	if e != api.OK || s.Size() != most || s.Tree().Size() != most || s.Free() != 0 {
		t.Fatalf("S2: %d, Size %d", e, s.Size())
	}
	if l, e := s.Entries(api.Span{End: most}); len(l) != most || slices.ContainsFunc(l, func(x string) bool { return x != "" }) || e != api.OK {
		t.Errorf("S4: %d entries, %d", len(l), e)
	}
	if n, e := s.Append([]string{""}); n != 0 || e != api.ErrStoreFull {
		t.Errorf("S3: Append: %d, %d", n, e)
	}
	p := laid(t, 4096)
	batch := slices.Repeat([]string{text(5, 1000)}, 32)
	for p.append(batch...) == api.OK {
	}
	for p.append(batch[0]) == api.OK {
	}
	left := p.s.Free()
	if p.append(text(6, left-1)) != api.ErrStoreFull || p.append(text(6, left-2)) != api.OK || p.append("") != api.ErrStoreFull || p.s.Free() != 0 {
		t.Errorf("S3: at the end of the room: Free %d", p.s.Free())
	}
	p.open()
	p.is()
}
