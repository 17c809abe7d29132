package device_test

import (
	"math"
	"slices"
	"strings"
	"testing"

	"scrivener/api"
	"scrivener/device"
)

// The model takes the words as they stand: it keeps every byte that lasts, and every write since the last flush, the older ones too; what is pending of a page is looked for among these, from the last one on.

func page(s string) string { return strings.Repeat(s, 256) }

var blank = page("\x00")

// mixed is a page whose bytes are unlike one another.
func mixed(from int) string {
	b := make([]byte, 256)
	for i := range b {
		b[i] = byte(from + i)
	}
	return string(b)
}

type model struct {
	lasting [][]byte
	writes  []api.Write
	armed   bool
	acts    int // that were tried since it was armed
	dies    int // at which of these
	dead    bool
}

func modelOf(l []string) *model {
	m := &model{}
	for _, p := range l {
		m.lasting = append(m.lasting, []byte(p))
	}
	return m
}

// last is what is pending of a page.
func (m *model) last(page int) (string, bool) {
	for i := len(m.writes) - 1; i >= 0; i-- {
		if m.writes[i].Page == page {
			return m.writes[i].Data, true
		}
	}
	return "", false
}

func (m *model) pending() []api.Write {
	var l []api.Write
	for i := range m.lasting {
		if data, ok := m.last(i); ok {
			l = append(l, api.Write{Page: i, Data: data})
		}
	}
	return l
}

func (m *model) pages() []string {
	var l []string
	for _, p := range m.lasting {
		l = append(l, string(p))
	}
	return l
}

func (m *model) none(page int) bool { return page < 0 || page >= len(m.lasting) }

func (m *model) read(page int) (string, api.Errno) {
	if m.dead {
		return "", api.ErrDead
	}
	if m.none(page) {
		return "", api.ErrDevicePage
	}
	if data, ok := m.last(page); ok {
		return data, api.OK
	}
	return string(m.lasting[page]), api.OK
}

// dying counts an act, and tells whether the device dies in it.
func (m *model) dying() bool {
	m.acts++
	m.dead = m.armed && m.acts == m.dies
	return m.dead
}

func (m *model) write(page int, data string) api.Errno {
	if m.dead {
		return api.ErrDead
	}
	if m.none(page) {
		return api.ErrDevicePage
	}
	if len(data) != 256 {
		return api.ErrDeviceSize
	}
	if m.dying() {
		return api.ErrDead
	}
	m.writes = append(m.writes, api.Write{Page: page, Data: data})
	return api.OK
}

func (m *model) flush() api.Errno {
	if m.dead || m.dying() {
		return api.ErrDead
	}
	for _, w := range m.writes {
		copy(m.lasting[w.Page], w.Data)
	}
	m.writes = nil
	return api.OK
}

func (m *model) arm(n int) api.Errno {
	if m.dead {
		return api.ErrDead
	}
	if n < 0 {
		return api.ErrArg
	}
	m.armed, m.acts, m.dies = n > 0, 0, n
	return api.OK
}

func (m *model) crash(l []api.Keep) api.Errno {
	pending := m.pending()
	for i, k := range l {
		ahead := func(other api.Keep) bool { return other.N == k.N }
		if k.N < 0 || k.N >= len(pending) || slices.ContainsFunc(l[:i], ahead) || k.Bytes < 0 || k.Bytes > 256 {
			return api.ErrDeviceKeep
		}
	}
	for _, k := range l {
		for i := range k.Bytes {
			m.lasting[pending[k.N].Page][i] = pending[k.N].Data[i]
		}
	}
	m.writes, m.armed, m.dead = nil, false, false
	return api.OK
}

// played is a device, and what it should be.
type played struct {
	*testing.T
	d *device.Device
	m *model
}

func made(t *testing.T, pages int) played {
	t.Helper()
	d, e := device.New(pages)
	if d == nil || e != api.OK {
		t.Fatalf("D1: New(%d): a device: %t, %d", pages, d != nil, e)
	}
	p := played{t, d, modelOf(slices.Repeat([]string{blank}, pages))}
	p.is()
	return p
}

func loaded(t *testing.T, l []string) played {
	t.Helper()
	d, e := device.Load(l)
	if d == nil || e != api.OK {
		t.Fatalf("D1: Load of %d pages: a device: %t, %d", len(l), d != nil, e)
	}
	p := played{t, d, modelOf(l)}
	p.is()
	return p
}

// is holds the device to all that can be asked of it.
func (p played) is() {
	p.Helper()
	if p.d.Size() != len(p.m.lasting) {
		p.Fatalf("D1: Size: %d, want %d", p.d.Size(), len(p.m.lasting))
	}
	if p.d.Dead() != p.m.dead {
		p.Fatalf("D5: Dead: %t", p.d.Dead())
	}
	if !slices.Equal(p.d.Pages(), p.m.pages()) {
		p.Fatal("D5: Pages are others")
	}
	if l := p.d.Pending(); !slices.Equal(l, p.m.pending()) {
		p.Fatalf("D5: %d writes are pending, or others, want %d", len(l), len(p.m.pending()))
	}
	for i := -1; i <= len(p.m.lasting); i++ {
		p.read(i)
	}
}

func (p played) read(page int) {
	p.Helper()
	want, wantE := p.m.read(page)
	if got, e := p.d.Read(page); got != want || e != wantE {
		p.Fatalf("D2: Read(%d): %q, %d, want %q, %d", page, got, e, want, wantE)
	}
}

func (p played) write(page int, data string) {
	p.Helper()
	want := p.m.write(page, data)
	if e := p.d.Write(page, data); e != want {
		p.Fatalf("D3: Write(%d, %d bytes): %d, want %d", page, len(data), e, want)
	}
}

func (p played) flush() {
	p.Helper()
	want := p.m.flush()
	if e := p.d.Flush(); e != want {
		p.Fatalf("D3: Flush: %d, want %d", e, want)
	}
}

func (p played) arm(n int) {
	p.Helper()
	want := p.m.arm(n)
	if e := p.d.Arm(n); e != want {
		p.Fatalf("D4: Arm(%d): %d, want %d", n, e, want)
	}
}

func (p played) crash(l ...api.Keep) {
	p.Helper()
	want := p.m.crash(l)
	if e := p.d.Crash(l); e != want {
		p.Fatalf("D6: Crash(%v): %d, want %d", l, e, want)
	}
}

// odd are numbers below nought, and from a number on.
func odd(from int) []int {
	l := []int{math.MinInt, math.MinInt + 1, -1 << 32, -256, -2, -1, from, from + 1, 4096, 4097, math.MaxInt - 1, math.MaxInt}
	for i := 13; i < 63; i++ {
		l = append(l, 1<<i, 1<<i+1, -(1 << i))
	}
	return l
}
