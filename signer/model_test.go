package signer_test

import (
	"math"
	"slices"
	"strings"
	"sync"
	"testing"

	"scrivener/api"
	"scrivener/device"
	"scrivener/digest"
	"scrivener/recursion"
	"scrivener/signer"
	"scrivener/verify"
	"scrivener/winternitz"
)

// The model takes the words as they stand, on a device of its own, which is armed and crashes as the signer's does: it holds each page to all pages that records may have, and asks layer 3 for the key and for paths.

func page(s string) string { return strings.Repeat(s, 256) }

var blank = page("\x00")

// counted is a seed whose bytes are unlike one another.
func counted() string { return text(0, 32) }

// text is so many bytes, unlike one another, by a number.
func text(n, bytes int) string {
	b := make([]byte, bytes)
	for i := range b {
		b[i] = byte(n*31 + i)
	}
	return string(b)
}

// seeds are some, also such as end with noughts, or look like records.
func seeds() []string {
	return []string{
		counted(), text(7, 32), strings.Repeat("s", 32), strings.Repeat("\x00", 32), strings.Repeat("\xff", 32),
		"x" + strings.Repeat("\x00", 31), strings.Repeat("\x00", 31) + "x", "SG\x02\x00\x01" + text(1, 27), text(1, 27) + "SG\x02\x00\x01",
	}
}

// texts are some that may be signed.
func texts() []string {
	return []string{"", "a", "b", "a checkpoint", "log.example/1\n5\nAAAA\n", "\x00", "\xff\xfe", strings.Repeat("x", 63), strings.Repeat("y", 1000)}
}

// recordPage is the page of a record, of any numbers.
func recordPage(height, number int, seed string) string {
	r := "SG" + string([]byte{byte(height), byte(number / 256), byte(number % 256)}) + seed
	return r + blank[:182] + r
}

// laidOut are the pages of a device on which a signer stands that has signed so often, and that was never torn.
func laidOut(pages, height, number int, seed string) []string {
	l := slices.Repeat([]string{blank}, pages)
	for n := max(0, number-1); n <= number; n++ {
		l[n%2] = recordPage(height, n, seed)
	}
	return l
}

// record is what a page may be that of.
type record struct {
	height, number int
	seed           string
}

// found is the record of which a text is the page, if it is one's that belongs there.
func found(text string, at int) (record, bool) {
	for height := range 9 {
		for number := at; number <= 1<<height; number += 2 {
			// Only a page that begins so is worth laying another one down.
			begins := text[:5] == "SG"+string([]byte{byte(height), byte(number / 256), byte(number % 256)})
			if begins && text == recordPage(height, number, text[5:37]) {
				return record{height, number, text[5:37]}, true
			}
		}
	}
	return record{}, false
}

// stands is what stands on a device that lives.
func stands(d *device.Device) (record, bool) {
	zeroth, _ := d.Read(0)
	first, _ := d.Read(1)
	even, ok := found(zeroth, 0)
	odd, also := found(first, 1)
	switch {
	case ok && also && (even.seed != odd.seed || even.height != odd.height), !ok && !also:
		return record{}, false
	case !ok || also && odd.number > even.number:
		return odd, true
	}
	return even, true
}

// worked are leaves that were worked out already, by their seeds.
var worked = struct {
	sync.Mutex
	leaves map[string][]string
}{leaves: map[string][]string{}}

// leavesOf are the leaves of the first keys of a seed.
func leavesOf(seed string, height int) []string {
	worked.Lock()
	defer worked.Unlock()
	l := worked.leaves[seed]
	for i := len(l); i < 1<<height; i++ {
		public, e := winternitz.Public(seed, i)
		if e != api.OK {
			panic("no public key")
		}
		l = append(l, digest.Leaf(public))
	}
	worked.leaves[seed] = l
	return slices.Clone(l[:1<<height])
}

func keyOf(seed string, height int) string {
	root, _ := recursion.Root(leavesOf(seed, height))
	return root
}

// signature is that of a text by the index-th key.
func signature(seed string, height, index int, text string) string {
	s := string([]byte{byte(index / 256), byte(index % 256)})
	one, _ := winternitz.Sign(seed, index, text)
	path, _ := recursion.Path(leavesOf(seed, height), index)
	return s + one + strings.Join(path, "")
}

// formed tells the height and the index of a signature, if it has the form of one.
func formed(s string) (height, index int, ok bool) {
	for h := range 9 {
		if len(s) == 2+2144+32*h {
			index := int(s[0])*256 + int(s[1])
			return h, index, index < 1<<h
		}
	}
	return 0, 0, false
}

func slowVerify(key, text, s string) api.Errno {
	height, index, ok := formed(s)
	if !ok {
		return api.ErrSignerForm
	}
	if len(key) != 32 {
		return api.ErrSignerBad
	}
	var path []string
	for i := range height {
		path = append(path, s[2146+32*i:2146+32*i+32])
	}
	public, _ := winternitz.Recover(text, s[2:2146])
	root, e := verify.RootOf(1<<height, index, digest.Leaf(public), path)
	if e != api.OK || root != key {
		return api.ErrSignerBad
	}
	return api.OK
}

func isVerify(t *testing.T, key, text, s string) api.Errno {
	t.Helper()
	want := slowVerify(key, text, s)
	if e := signer.Verify(key, text, s); e != want {
		t.Errorf("G5: Verify(%d bytes, %d bytes, %d bytes): %d, want %d", len(key), len(text), len(s), e, want)
	}
	return want
}

func isIndex(t *testing.T, s string) {
	t.Helper()
	_, want, ok := formed(s)
	wantE := api.OK
	if !ok {
		want, wantE = 0, api.ErrSignerForm
	}
	if i, e := signer.Index(s); i != want || e != wantE {
		t.Errorf("G5: Index of %d bytes: %d, %d, want %d, %d", len(s), i, e, want, wantE)
	}
}

type model struct {
	d *device.Device
	record
	doubt bool
}

func modelCreate(d *device.Device, seed string, height int) api.Errno {
	if d.Dead() {
		return api.ErrDead
	}
	if len(seed) != 32 {
		return api.ErrArg
	}
	if height < 0 || height > 8 {
		return api.ErrSignerHeight
	}
	if _, ok := stands(d); ok {
		return api.ErrSignerBack
	}
	if d.Write(0, recordPage(height, 0, seed)) != api.OK || d.Write(1, blank) != api.OK || d.Flush() != api.OK {
		return api.ErrDead
	}
	return api.OK
}

func modelOpen(d *device.Device) (*model, api.Errno) {
	if d.Dead() {
		return nil, api.ErrDead
	}
	r, ok := stands(d)
	if !ok {
		return nil, api.ErrSignerForm
	}
	return &model{d: d, record: r}, api.OK
}

func (m *model) sign(text string) (string, api.Errno) {
	if m.d.Dead() {
		return "", api.ErrDead
	}
	if r, ok := stands(m.d); m.doubt || !ok || r != m.record {
		m.doubt = true
		return "", api.ErrSignerBack
	}
	if m.number == 1<<m.height {
		return "", api.ErrSignerUsed
	}
	next := m.number + 1
	if m.d.Write(next%2, recordPage(m.height, next, m.seed)) != api.OK || m.d.Flush() != api.OK {
		m.doubt = true
		return "", api.ErrDead
	}
	m.number = next
	return signature(m.seed, m.height, next-1, text), api.OK
}

// played is a device, and what it should be.
type played struct {
	*testing.T
	d, twin *device.Device
}

// one is a signer on such a device, and what it should be.
type one struct {
	played
	s *signer.Signer
	m *model
}

func on(t *testing.T, pages []string) played {
	t.Helper()
	d, e := device.Load(pages)
	twin, f := device.Load(pages)
	if e != api.OK || f != api.OK {
		t.Fatalf("no device: %d, %d", e, f)
	}
	return played{t, d, twin}
}

// empty is a device of noughts.
func empty(t *testing.T) played {
	t.Helper()
	return on(t, slices.Repeat([]string{blank}, 4))
}

// made is a signer that has signed nothing.
func made(t *testing.T, seed string, height int) one {
	t.Helper()
	p := empty(t)
	p.create(seed, height)
	o, _ := p.open()
	return o
}

// same holds the signer's device to the model's: what lasts, what is pending, whether it lives.
func (p played) same(promise string) {
	p.Helper()
	if p.d.Dead() != p.twin.Dead() {
		p.Fatalf("%s: the device is dead: %t", promise, p.d.Dead())
	}
	if l, want := p.d.Pages(), p.twin.Pages(); !slices.Equal(l, want) {
		p.Fatalf("%s: other pages last: %q, %q, want %q, %q", promise, l[0], l[1], want[0], want[1])
	}
	if l, want := p.d.Pending(), p.twin.Pending(); !slices.Equal(l, want) {
		p.Fatalf("%s: %d pages are pending, or others, want %d", promise, len(l), len(want))
	}
}

func (p played) create(seed string, height int) api.Errno {
	p.Helper()
	want := modelCreate(p.twin, seed, height)
	if e := signer.Create(p.d, seed, height); e != want {
		p.Fatalf("G1: Create(%d bytes, %d): %d, want %d", len(seed), height, e, want)
	}
	p.same("G1")
	return want
}

func (p played) open() (one, api.Errno) {
	p.Helper()
	m, want := modelOpen(p.twin)
	s, e := signer.Open(p.d)
	if e != want || (s != nil) != (m != nil) {
		p.Fatalf("G2: Open: a signer: %t, %d, want %d", s != nil, e, want)
	}
	p.same("G2")
	o := one{p, s, m}
	if m != nil {
		o.is()
	}
	return o, want
}

func (p played) arm(n int) {
	p.Helper()
	if e, f := p.d.Arm(n), p.twin.Arm(n); e != f {
		p.Fatalf("Arm(%d): %d, %d", n, e, f)
	}
}

func (p played) crash(l ...api.Keep) {
	p.Helper()
	if e, f := p.d.Crash(l), p.twin.Crash(l); e != api.OK || f != api.OK {
		p.Fatalf("Crash(%v): %d, %d", l, e, f)
	}
}

// write is what somebody else writes.
func (p played) write(at int, data string) {
	p.Helper()
	if e, f := p.d.Write(at, data), p.twin.Write(at, data); e != f {
		p.Fatalf("Write(%d): %d, %d", at, e, f)
	}
}

func (p played) flush() {
	p.Helper()
	if e, f := p.d.Flush(), p.twin.Flush(); e != f {
		p.Fatalf("Flush: %d, %d", e, f)
	}
}

// is holds a signer to what can be asked of it, but for its key, which takes long.
func (o one) is() {
	o.Helper()
	if o.s.Left() != 1<<o.m.height-o.m.number || o.s.Doubt() != o.m.doubt {
		o.Fatalf("G3: Left %d, Doubt %t, want %d, %t", o.s.Left(), o.s.Doubt(), 1<<o.m.height-o.m.number, o.m.doubt)
	}
}

func (o one) hasKey() {
	o.Helper()
	if key := o.s.Key(); key != keyOf(o.m.seed, o.m.height) {
		o.Fatalf("G3: Key of the height %d: %x", o.m.height, key)
	}
}

func (o one) sign(text string) (string, api.Errno) {
	o.Helper()
	want, wantE := o.m.sign(text)
	s, e := o.s.Sign(text)
	if s != want || e != wantE {
		o.Fatalf("G4: Sign: %d bytes, %d, want %d, %d", len(s), e, len(want), wantE)
	}
	o.same("G4")
	o.is()
	return want, wantE
}

// odd are numbers below nought, and from a number on.
func odd(from int) []int {
	l := []int{math.MinInt, math.MinInt + 1, -1 << 32, -256, -2, -1, from, from + 1, math.MaxInt - 1, math.MaxInt}
	for i := 5; i < 63; i++ {
		l = append(l, 1<<i, 1<<i+1, -(1 << i))
	}
	return l
}
