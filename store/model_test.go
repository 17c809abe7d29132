package store_test

import (
	"encoding/binary"
	"math"
	"slices"
	"strings"
	"testing"

	"scrivener/api"
	"scrivener/device"
	"scrivener/digest"
	"scrivener/recursion"
	"scrivener/store"
	"scrivener/tile"
)

// The model takes the words as they stand, on a device of its own, which is armed and crashes as the store's does: it looks at the data byte by byte, and lays each page down anew out of all the entries there are.

func page(s string) string { return strings.Repeat(s, 256) }

var blank = page("\x00")

// text is so many bytes, unlike one another, by a number.
func text(n, bytes int) string {
	b := make([]byte, bytes)
	for i := range b {
		b[i] = byte(n*31 + i*7 + 1)
	}
	return string(b)
}

// headPage is a head page, of any numbers.
func headPage(number uint64, count, bytes uint32) string {
	b := binary.BigEndian.AppendUint64(nil, number)
	b = append(b, "SL"...)
	b = binary.BigEndian.AppendUint32(b, count)
	b = binary.BigEndian.AppendUint32(b, bytes)
	b = append(b, make([]byte, 230)...)
	return string(binary.BigEndian.AppendUint64(b, number))
}

// standing is entries as they stand in the data.
func standing(entries []string) []byte {
	var b []byte
	for _, x := range entries {
		b = append(b, byte(len(x)/256), byte(len(x)%256))
		b = append(b, x...)
	}
	return b
}

// laidOut are the pages of a log: its head page on the page that it is for, the other one of noughts.
func laidOut(pages int, number uint64, entries []string) []string {
	data := standing(entries)
	l := slices.Repeat([]string{blank}, pages)
	l[number%2] = headPage(number, uint32(len(entries)), uint32(len(data)))
	for i := 0; i < len(data); i += 256 {
		l[2+i/256] = (string(data[i:min(i+256, len(data))]) + blank)[:256]
	}
	return l
}

func room(d *device.Device) int { return 256 * (d.Size() - 2) }

func byteOf(d *device.Device, at int) int {
	p, _ := d.Read(2 + at/256)
	return int(p[at%256])
}

// found are the entries that take the first bytes of the data, if some do.
func found(d *device.Device, bytes int) ([]string, bool) {
	entries := []string{}
	at := 0
	for at < bytes {
		if at+2 > bytes {
			return nil, false
		}
		length := byteOf(d, at)*256 + byteOf(d, at+1)
		at += 2
		if length > 1000 || at+length > bytes {
			return nil, false
		}
		var b []byte
		for range length {
			b = append(b, byte(byteOf(d, at)))
			at++
		}
		entries = append(entries, string(b))
	}
	return entries, true
}

// right tells the number of a head page and its entries, if it is right.
func right(d *device.Device, at int) (uint64, []string, bool) {
	p, _ := d.Read(at)
	b := []byte(p)
	number, again := binary.BigEndian.Uint64(b), binary.BigEndian.Uint64(b[248:])
	count, bytes := binary.BigEndian.Uint32(b[10:]), binary.BigEndian.Uint32(b[14:])
	switch {
	case number != again, number < 1, number > 1<<62, int(number%2) != at:
		return 0, nil, false
	case b[8] != 'S', b[9] != 'L', strings.Trim(p[18:248], "\x00") != "":
		return 0, nil, false
	case uint64(bytes) > uint64(room(d)):
		return 0, nil, false
	}
	entries, ok := found(d, int(bytes))
	if !ok || uint64(count) != uint64(len(entries)) {
		return 0, nil, false
	}
	return number, entries, true
}

type model struct {
	d       *device.Device
	number  uint64
	entries []string
	doubt   bool
}

func modelFormat(d *device.Device) api.Errno {
	if d.Dead() {
		return api.ErrDead
	}
	for at := range 2 {
		if _, _, ok := right(d, at); ok {
			return api.ErrStoreThere
		}
	}
	if d.Write(1, headPage(1, 0, 0)) != api.OK || d.Flush() != api.OK {
		return api.ErrDead
	}
	return api.OK
}

func modelOpen(d *device.Device) (*model, api.Errno) {
	if d.Dead() {
		return nil, api.ErrDead
	}
	even, entries, ok := right(d, 0)
	odd, others, also := right(d, 1)
	switch {
	case ok && (!also || even > odd):
		return &model{d: d, number: even, entries: entries}, api.OK
	case also:
		return &model{d: d, number: odd, entries: others}, api.OK
	}
	return nil, api.ErrStoreForm
}

func (m *model) free() int { return room(m.d) - len(standing(m.entries)) }

func (m *model) append(l []string) (int, api.Errno) {
	if m.doubt || m.d.Dead() {
		m.doubt = true
		return 0, api.ErrDead
	}
	if len(l) < 1 || len(l) > 32 {
		return 0, api.ErrStoreMany
	}
	for _, x := range l {
		if len(x) > 1000 {
			return 0, api.ErrStoreLong
		}
	}
	if len(standing(l)) > m.free() || m.number == 1<<62 {
		return 0, api.ErrStoreFull
	}
	if !m.laid(l) {
		m.doubt = true
		return 0, api.ErrDead
	}
	m.entries = slices.Concat(m.entries, l)
	m.number++
	return len(m.entries) - len(l), api.OK
}

// laid lays a batch down, and tells whether the device has lived through it.
func (m *model) laid(l []string) bool {
	all := slices.Concat(m.entries, l)
	from, to := len(standing(m.entries)), len(standing(all))
	data := append(standing(all), blank...)
	for at := from / 256 * 256; at < to; at += 256 {
		if m.d.Write(2+at/256, string(data[at:at+256])) != api.OK {
			return false
		}
	}
	if m.d.Flush() != api.OK {
		return false
	}
	number := m.number + 1
	return m.d.Write(int(number%2), headPage(number, uint32(len(all)), uint32(to))) == api.OK && m.d.Flush() == api.OK
}

// played is a store on its device, and what it should be.
type played struct {
	*testing.T
	d, twin *device.Device
	s       *store.Store
	m       *model
	tree    *tile.Tree // that the store told first
}

// on is a device with no store opened yet, on which these pages last.
func on(t *testing.T, pages []string) *played {
	t.Helper()
	d, e := device.Load(pages)
	twin, f := device.Load(pages)
	if e != api.OK || f != api.OK {
		t.Fatalf("no device: %d, %d", e, f)
	}
	return &played{T: t, d: d, twin: twin}
}

// laid is a store without entries.
func laid(t *testing.T, pages int) *played {
	t.Helper()
	p := on(t, slices.Repeat([]string{blank}, pages))
	p.format()
	p.open()
	return p
}

// same holds the store's device to the model's: what lasts, what is pending, whether it lives.
func (p *played) same(promise string) {
	p.Helper()
	if p.d.Dead() != p.twin.Dead() {
		p.Fatalf("%s: the device is dead: %t", promise, p.d.Dead())
	}
	if !slices.Equal(p.d.Pages(), p.twin.Pages()) {
		p.Fatalf("%s: other pages last", promise)
	}
	if l, want := p.d.Pending(), p.twin.Pending(); !slices.Equal(l, want) {
		p.Fatalf("%s: %d pages are pending, or others, want %d", promise, len(l), len(want))
	}
}

func (p *played) format() api.Errno {
	p.Helper()
	want := modelFormat(p.twin)
	if e := store.Format(p.d); e != want {
		p.Fatalf("S1: Format: %d, want %d", e, want)
	}
	p.same("S1")
	return want
}

func (p *played) open() api.Errno {
	p.Helper()
	m, want := modelOpen(p.twin)
	s, e := store.Open(p.d)
	if e != want || (s != nil) != (m != nil) {
		p.Fatalf("S2: Open: a store: %t, %d, want %d", s != nil, e, want)
	}
	p.same("S2")
	p.s, p.m, p.tree = s, m, s.Tree()
	if m != nil {
		p.is()
	}
	return want
}

func (p *played) append(l ...string) api.Errno {
	p.Helper()
	wantFirst, want := p.m.append(l)
	if first, e := p.s.Append(l); first != wantFirst || e != want {
		p.Fatalf("S3: Append of %d entries: %d, %d, want %d, %d", len(l), first, e, wantFirst, want)
	}
	p.same("S3")
	return want
}

func (p *played) arm(n int) {
	p.Helper()
	if e, f := p.d.Arm(n), p.twin.Arm(n); e != f {
		p.Fatalf("Arm(%d): %d, %d", n, e, f)
	}
}

func (p *played) crash(l ...api.Keep) {
	p.Helper()
	if e, f := p.d.Crash(l), p.twin.Crash(l); e != api.OK || f != api.OK {
		p.Fatalf("Crash(%v): %d, %d", l, e, f)
	}
}

// is holds the store to all that can be asked of it.
func (p *played) is() {
	p.Helper()
	n := len(p.m.entries)
	if p.s.Size() != n || p.s.Free() != p.m.free() || p.s.Doubt() != p.m.doubt {
		p.Fatalf("S4: Size %d, Free %d, Doubt %t, want %d, %d, %t", p.s.Size(), p.s.Free(), p.s.Doubt(), n, p.m.free(), p.m.doubt)
	}
	for i := -1; i <= n; i++ {
		p.entry(i)
	}
	for _, x := range []api.Span{{}, {End: n}, {End: n + 1}, {Begin: -1, End: n}, {Begin: n, End: n}, {Begin: n / 2, End: n}, {Begin: n / 3, End: n / 2}, {Begin: 1}, {Begin: n + 1, End: n + 1}} {
		p.entries(x)
	}
	p.hasTree()
}

func (p *played) entry(i int) {
	p.Helper()
	want, wantE := "", api.ErrStoreNone
	switch {
	case p.m.doubt:
		wantE = api.ErrDead
	case i >= 0 && i < len(p.m.entries):
		want, wantE = p.m.entries[i], api.OK
	}
	if got, e := p.s.Entry(i); got != want || e != wantE {
		p.Fatalf("S4: Entry(%d): %q, %d, want %q, %d", i, got, e, want, wantE)
	}
}

func (p *played) entries(x api.Span) {
	p.Helper()
	var want []string
	wantE := api.ErrStoreNone
	switch {
	case p.m.doubt:
		wantE = api.ErrDead
	case 0 <= x.Begin && x.Begin <= x.End && x.End <= len(p.m.entries):
		want, wantE = p.m.entries[x.Begin:x.End], api.OK
	}
	if got, e := p.s.Entries(x); !slices.Equal(got, want) || e != wantE {
		p.Fatalf("S4: Entries(%v): %d of them, %d, want %d, %d", x, len(got), e, len(want), wantE)
	}
}

func (p *played) hasTree() {
	p.Helper()
	n := len(p.m.entries)
	if p.tree == nil || p.s.Tree() != p.tree {
		p.Fatal("S4: Tree: another one")
	}
	var leaves []string
	for _, x := range p.m.entries {
		leaves = append(leaves, digest.Leaf(x))
	}
	if got, e := p.tree.Leaves(api.Span{End: n}); !slices.Equal(got, leaves) || e != api.OK || p.tree.Size() != n || p.tree.Height() != 8 {
		p.Fatalf("S4: Tree: %d leaves of %d, of the height %d", p.tree.Size(), n, p.tree.Height())
	}
	if n > 4096 {
		return
	}
	for _, size := range []int{n / 2, n} {
		want, _ := recursion.Root(leaves[:size])
		if got, e := p.tree.Root(size); got != want || e != api.OK {
			p.Fatalf("S4: Tree: the root of %d leaves is another one, %d", size, e)
		}
	}
}

// odd are numbers below nought, and from a number on.
func odd(from int) []int {
	l := []int{math.MinInt, math.MinInt + 1, -1 << 32, -256, -2, -1, from, from + 1, math.MaxInt - 1, math.MaxInt}
	for i := 13; i < 63; i++ {
		l = append(l, 1<<i, 1<<i+1, -(1 << i))
	}
	return l
}
