package store_test

import (
	"math"
	"math/rand"
	"slices"
	"testing"

	"scrivener/api"
)

// Each bit of both heads and of the data, turned over.
func TestEachBit(t *testing.T) {
	p := laid(t, 4)
	p.append("one", "")
	p.append(text(1, 3))
	pages := p.d.Pages()
	sizes := map[int]int{}
	for at := range 3 {
		for i := range 256 {
			for bit := range 8 {
				l := slices.Clone(pages)
				b := []byte(l[at])
				b[i] ^= 1 << bit
				l[at] = string(b)
				q := on(t, l)
				if q.open() == api.OK {
					sizes[q.s.Size()]++
				}
			}
		}
	}
	if sizes[2] < 2000 || sizes[3] < 2000 {
		t.Errorf("S2: of so many stores so many entries: %v", sizes)
	}
}

// Heads of any numbers, on both pages.
func TestNumbers(t *testing.T) {
	numbers := []uint64{0, 1, 2, 3, 4, 255, 256, 257, 1<<32 - 1, 1 << 32, 1<<61 + 1, 1<<62 - 1, 1 << 62, 1<<62 + 1, 1<<62 + 2, 1 << 63, 1<<63 + 1, math.MaxUint64 - 1, math.MaxUint64}
	for _, even := range numbers {
		for _, odd := range numbers {
			l := laidOut(4, 2, []string{"a", "b"})
			l[0], l[1] = headPage(even, 1, 3), headPage(odd, 2, 6)
			p := on(t, l)
			if p.open() != api.OK {
				continue
			}
			number := p.m.number
			e := p.append("c")
			if (e == api.ErrStoreFull) != (number == 1<<62) {
				t.Errorf("S3: behind the number %d: %d", number, e)
			}
			if want := headPage(number+1, uint32(p.s.Size()), uint32(3*p.s.Size())); e == api.OK && p.d.Pages()[(number+1)%2] != want {
				t.Errorf("S3: behind the number %d another one, or on another page", number)
			}
			p.is()
			if p.open() != api.OK || p.m.number < number {
				t.Errorf("S3: behind the number %d: opened again: %d", number, p.m.number)
			}
		}
	}
}

// The greatest number is full, whatever room is left; but other errors are named ahead of that.
func TestGreatestNumber(t *testing.T) {
	p := on(t, laidOut(6, 1<<62-1, []string{"a"}))
	p.open()
	if e := p.append("b"); e != api.OK || p.d.Pages()[0] != headPage(1<<62, 2, 6) {
		t.Errorf("S3: up to the greatest number: %d", e)
	}
	for range 2 {
		if e := p.append(); e != api.ErrStoreMany {
			t.Errorf("S3: Append of none: %d", e)
		}
		if e := p.append(text(1, 1001)); e != api.ErrStoreLong {
			t.Errorf("S3: Append of a long one: %d", e)
		}
		if e := p.append(""); e != api.ErrStoreFull {
			t.Errorf("S3: Append at the greatest number: %d", e)
		}
		if p.is(); p.s.Free() != 1018 {
			t.Errorf("S4: Free: %d", p.s.Free())
		}
		p.open()
	}
	p.arm(1)
	p.d.Flush()
	p.twin.Flush()
	if e := p.append(""); e != api.ErrDead {
		t.Errorf("S3: of a dead device: %d", e)
	}
}

// A head tells just as many entries, in just as many bytes, as the data has there.
func TestCountsAndBytes(t *testing.T) {
	entries := []string{"ab", "", text(1, 300), "c", text(2, 196)}
	pages := laidOut(4, 2, entries)
	ends := map[int]int{0: 0}
	at := 0
	for i, x := range entries {
		at += 2 + len(x)
		ends[at] = i + 1
	}
	if at != 509 {
		t.Fatalf("the entries take %d bytes", at)
	}
	for bytes := range 520 {
		for count := range 9 {
			l := slices.Clone(pages)
			l[0] = headPage(2, uint32(count), uint32(bytes))
			p := on(t, l)
			want := api.ErrStoreForm
			if n, ok := ends[bytes]; ok && n == count {
				want = api.OK
			}
			if bytes == 511 && count == 6 { // two noughts behind the last one
				want = api.OK
			}
			if e := p.open(); e != want {
				t.Errorf("S2: %d entries in %d bytes: %d, want %d", count, bytes, e, want)
			}
			p.format()
		}
	}
}

func TestGreatCountsAndBytes(t *testing.T) {
	numbers := []uint32{0, 1, 2, 255, 256, 257, 511, 512, 513, 1024, 65535, 65536, 1<<24 + 256, 1 << 31, 1<<31 + 256, math.MaxUint32 - 1, math.MaxUint32}
	for _, count := range numbers {
		for _, bytes := range numbers {
			l := []string{headPage(2, count, bytes), blank, blank, blank}
			p := on(t, l)
			want := api.ErrStoreForm
			if bytes <= 512 && uint64(bytes) == 2*uint64(count) {
				want = api.OK
			}
			if e := p.open(); e != want {
				t.Errorf("S2: %d entries in %d bytes of noughts: %d, want %d", count, bytes, e, want)
			}
		}
	}
}

func TestLongestEntry(t *testing.T) {
	for _, length := range []int{998, 999, 1000, 1001, 1002, 1022} {
		for _, behind := range []string{"", "x"} {
			entries := []string{"a", text(1, length), behind}
			p := on(t, laidOut(7, 2, entries))
			want := api.ErrStoreForm
			if length <= 1000 {
				want = api.OK
			}
			if e := p.open(); e != want {
				t.Errorf("S2: an entry of %d bytes: %d, want %d", length, e, want)
			}
		}
	}
}

// An entry whose bytes go on behind those of the head, or behind the room, is none.
func TestEntryBeyond(t *testing.T) {
	for _, length := range []int{509, 510, 511, 512, 1000} {
		l := []string{headPage(2, 1, uint32(min(2+length, 512))), blank, string([]byte{byte(length / 256), byte(length)}) + blank[2:], blank}
		p := on(t, l)
		want := api.ErrStoreForm
		if length <= 510 {
			want = api.OK
		}
		if e := p.open(); e != want {
			t.Errorf("S2: an entry of %d bytes in 512: %d, want %d", length, e, want)
		}
	}
}

// anyHead is a head page: a right one, or one that is nearly so.
func anyHead(r *rand.Rand, at int, entries []string) string {
	n := r.Intn(len(entries) + 1)
	bytes := len(standing(entries[:n]))
	number := uint64(1 + r.Intn(6))
	if r.Intn(4) > 0 {
		number = uint64(2+at) + 2*uint64(r.Intn(3))
	}
	if r.Intn(6) == 0 {
		n += r.Intn(3) - 1
	}
	if r.Intn(6) == 0 {
		bytes += r.Intn(5) - 2
	}
	b := []byte(headPage(number, uint32(n), uint32(bytes)))
	if r.Intn(6) == 0 {
		b[r.Intn(256)] = byte(r.Intn(3))
	}
	return string(b)
}

// Of any pages Open answers an error, or a store whose entries the data has; one may go on with it.
func TestAnyPages(t *testing.T) {
	r := rand.New(rand.NewSource(1))
	opened := 0
	for range 20000 {
		var entries []string
		for range r.Intn(6) {
			entries = append(entries, text(r.Intn(9), r.Intn(4)*r.Intn(60)))
		}
		l := laidOut(5, 2, entries)
		for at := range 2 {
			l[at] = anyHead(r, at, entries)
		}
		if r.Intn(3) == 0 {
			b := []byte(l[2+r.Intn(3)])
			b[r.Intn(r.Intn(256)+1)] = byte(r.Intn(5))
			l[2] = string(b)
		}
		p := on(t, l)
		if p.open() != api.OK {
			if p.format() != api.OK || p.open() != api.OK {
				t.Fatal("S1: neither a log, nor can one be laid")
			}
			continue
		}
		opened++
		if p.format() != api.ErrStoreThere {
			t.Fatal("S1: laid over a log")
		}
		p.append("x", text(3, r.Intn(300)))
		p.is()
	}
	if opened < 5000 || opened > 19000 {
		t.Errorf("S5: of 20000 rows of pages %d had a log", opened)
	}
}
