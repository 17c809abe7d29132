package signer_test

import (
	"encoding/hex"
	"math/rand"
	"slices"
	"strings"
	"testing"

	"scrivener/api"
	"scrivener/device"
	"scrivener/digest"
	"scrivener/signer"
)

func TestFirstExample(t *testing.T) {
	d, _ := device.New(4)
	if s, e := signer.Open(d); s != nil || e != api.ErrSignerForm {
		t.Errorf("example 1: Open: %d", e)
	}
	d.Arm(4)
	if e := signer.Create(d, counted(), 2); e != api.OK {
		t.Fatalf("example 1: Create: %d", e)
	}
	if e := d.Flush(); e != api.ErrDead {
		t.Errorf("example 1: Create was not three acts: %d", e)
	}
	d.Crash(nil)
	if e := signer.Create(d, counted(), 2); e != api.ErrSignerBack {
		t.Errorf("example 1: Create again: %d", e)
	}
	s, e := signer.Open(d)
	if e != api.OK || s.Left() != 4 {
		t.Fatalf("example 1: Open: %d", e)
	}
	a, e := s.Sign("a")
	if i, f := signer.Index(a); i != 0 || e != api.OK || f != api.OK || s.Left() != 3 {
		t.Errorf("example 1: Sign: %d, %d, Index %d, Left %d", e, f, i, s.Left())
	}
	for _, c := range []struct {
		text, s string
		want    api.Errno
	}{{"a", a, api.OK}, {"b", a, api.ErrSignerBad}, {"a", a[:len(a)/2], api.ErrSignerForm}} {
		if e := signer.Verify(s.Key(), c.text, c.s); e != c.want {
			t.Errorf("example 1: Verify(%q): %d, want %d", c.text, e, c.want)
		}
	}
}

func TestSecondExample(t *testing.T) {
	d, _ := device.New(4)
	signer.Create(d, counted(), 2)
	s, _ := signer.Open(d)
	s.Sign("a")
	a, _ := signer.Open(d)
	b, _ := signer.Open(d)
	x, e := a.Sign("x")
	if i, _ := signer.Index(x); i != 1 || e != api.OK {
		t.Errorf("example 2: Sign: %d, Index %d", e, i)
	}
	if y, e := b.Sign("y"); y != "" || e != api.ErrSignerBack || !b.Doubt() {
		t.Errorf("example 2: the other one: %d, Doubt %t", e, b.Doubt())
	}
	c, _ := signer.Open(d)
	z, e := c.Sign("z")
	if i, _ := signer.Index(z); i != 2 || e != api.OK {
		t.Errorf("example 2: opened anew: %d, Index %d", e, i)
	}
}

func TestThirdExample(t *testing.T) {
	for bytes, want := range map[int]int{-1: 3, 256: 2} {
		o := made(t, counted(), 2)
		o.sign("a")
		o.arm(2)
		if s, e := o.s.Sign("b"); s != "" || e != api.ErrDead || !o.s.Doubt() {
			t.Errorf("example 3: Sign: %d, Doubt %t", e, o.s.Doubt())
		}
		if bytes < 0 {
			o.d.Crash(nil)
		} else {
			o.d.Crash([]api.Keep{{N: 0, Bytes: bytes}})
		}
		if s, e := o.s.Sign("b"); s != "" || e != api.ErrSignerBack {
			t.Errorf("example 3: Sign of what lives again: %d", e)
		}
		if x, e := signer.Open(o.d); e != api.OK || x.Left() != want {
			t.Errorf("example 3: %d bytes are kept: %d, Left %d, want %d", bytes, e, x.Left(), want)
		}
	}
}

// What was worked out elsewhere, of the seed whose bytes are 0 to 31: the keys of all heights, and the digests of signatures by the first key, the first one of the right half, and the last one.
func TestKeysThatAreWrittenOut(t *testing.T) {
	for height, c := range [][]string{
		{"87b0e9d6ce36dfe56d0d38d68a54e8994f5690c88e7cd498f65332d1be9e9ffe", "10f65c6f690ceb286ae15eb42c75aefc5a493427d3019ea40d01e95a4d408bbb"},
		{"8fdb45ba79564bc0795e16be85da2a845a19c2205bd7594053dd7a8e5c80503e", "c8c302d606d9f66a4a11b021fe643bfbbe38205aab14859156e4b16dbf622660", "e1c19e95e10094d4f002b9e4c1c1c1def3e7c983bfbf2a1876b0fb85629541a0"},
		{"6b341fe008814875c436e815b88065ef47dfcd06cb5002c6b51ab70b2fcb1eaa", "f6912097f1bc7c9dc0cf0f14e260b75d3b8a8766c2dd286835dc929b48a2dabd", "0e737c75a587540b8da2180a430ea485f5995e3c5be563fcf7e3a11e1422c397", "444b143edda990a264da6efffa80ee68f3e07af76e5f2792ddb7bf5b2d367de5"},
		{"2ce2536c339c71c455f281bc7461140eb775b1241cc94ae864999deeb4686e81", "e03482cf01bf8f797dfa84b2a28f854cfafb18d7d9afc607b6de309ab3ed1ca8", "3929c21efbaa597d44f53861a88c41711e65a4196704d637320a690989afd2a3", "d075fd18c6e2a835b7b2689426ffb5300dfa5915d1be9a62fcfe5177afbbab34"},
		{"3da8afa62f04b0c3c9cc171f01ecd05249a96e313ee375ba5bc83277b7b61016", "0dff5f30395d475a5eda06f8dd0ad0ec75f79dbfa8ed18df55e2a6ff7b7601de", "6ce31141456d096c694230c8b1810986129a7212ef8d0004570655eb5e3180ad", "8417e3bafe5e0fe2550db9f47d58e7d84d31dcdb949cfb03e55d22acec7442fc"},
		{"61d6d2d2b6c9d667b0352a16ba12140d831eb5b023cd193b3951fcf0202b4844", "1bd74486a3726b368bd3806d5ce2353d45a77292001b58a35a2d19b6791567b5", "6aebcdb1446d11f1f50bdac153d620de2b4b48f2dd4d8146b3fd9179e4489ff0", "af4e4861234d517374e8d474e9304fba850bd9707f885a2e38c1f39790ccb068"},
		{"0fd1713c56498419ef9d156bf4240cf8f83d16616da853ffffb176f9265bab30", "57dfc9d2a47b247ac5df863fb85568e891f0a3c5d8850cb7a4c487b5217bd395", "17c64d03c480cf65cee3746b2da1f3f92193669219f0ac7d011bbc1f9915d230", "61119f84adce240139ecf636f1814f8354bd2fadf33ec5448568154d626161b8"},
		{"1fea333c075bfb017957cf693fcb7e38b58302b5f8fe6ea4b55ca90a86e2c750", "e9b5f621f73f42c9d830d8567cd194d5a11fbe263e3c2e53d20794c416facdd6", "1429f60a4d7c9d2c2b167e28dca9ce87ed06deeafd810e8379d85a36e4385a86", "666480eeed20de49d6da0167d91401b5f7a5d150670662fc4848be19e0177605"},
		{"7f50be64b64b11bcb6346547f33dc24cb6b484d5f80e98e37af6afed30a650b5", "a7817a59d91232c4bfadccce821544de2f8fd791fa0b5b30cebbd3877c91b084", "4bd6c8bd9763274d631e31bb88c67d9c5407e49cba6acd6a6eb37ac8379e82a9", "dd081a4e9c4306f119c51b454d65c3488f3d7b85ab776a538af2091052741560"},
	} {
		half, last := 1<<height/2, 1<<height-1
		for k, index := range []int{0, half, last}[:len(c)-1] {
			o, _ := on(t, laidOut(4, height, index, counted())).open()
			if key := o.s.Key(); hex.EncodeToString([]byte(key)) != c[0] {
				t.Errorf("G3: Key of the height %d: %x", height, key)
			}
			s, e := o.s.Sign("a checkpoint")
			if hex.EncodeToString([]byte(digest.Sum(s))) != c[k+1] || e != api.OK || len(s) != 2146+32*height {
				t.Errorf("G4: the height %d, the key %d: %d bytes, %d", height, index, len(s), e)
			}
		}
	}
}

func TestCreate(t *testing.T) {
	for _, seed := range seeds() {
		for height := range 9 {
			p := empty(t)
			if _, e := p.open(); e != api.ErrSignerForm {
				t.Errorf("G2: Open of noughts: %d", e)
			}
			if e := p.create(seed, height); e != api.OK {
				t.Errorf("G1: Create of the height %d: %d", height, e)
			}
			if l := p.d.Pages(); l[0] != recordPage(height, 0, seed) || l[1] != blank || len(p.d.Pending()) > 0 {
				t.Errorf("G1: of the height %d other pages stand there", height)
			}
			if o, e := p.open(); e != api.OK || o.s.Left() != 1<<height || o.s.Doubt() {
				t.Errorf("G2: Open of the height %d: %d", height, e)
			}
		}
	}
}

func TestCreateOfAnySize(t *testing.T) {
	for _, pages := range []int{4, 5, 17, 4096} {
		l := slices.Repeat([]string{page("x")}, pages)
		p := on(t, l)
		p.write(pages-1, text(9, 256))
		if e := p.create(counted(), 1); e != api.OK {
			t.Errorf("G1: Create on %d pages: %d", pages, e)
		}
		l[0], l[1], l[pages-1] = recordPage(1, 0, counted()), blank, text(9, 256)
		if !slices.Equal(p.d.Pages(), l) {
			t.Errorf("G1: on %d pages another one was changed", pages)
		}
		o, _ := p.open()
		o.sign("a")
		l[1] = recordPage(1, 1, counted())
		o.write(2, text(8, 256))
		o.sign("b")
		l[0], l[2] = recordPage(1, 2, counted()), text(8, 256)
		if !slices.Equal(p.d.Pages(), l) {
			t.Errorf("G4: on %d pages another one was changed", pages)
		}
	}
}

// Of several errors the one that the promise names first.
func TestCreateWhichError(t *testing.T) {
	wrong := []string{"", "s", counted()[1:], counted() + "x", counted() + counted(), strings.Repeat("x", 1<<16)}
	for _, there := range []bool{false, true} {
		for _, dead := range []bool{false, true} {
			for _, height := range append(odd(9), 0, 1, 8) {
				p := empty(t)
				if there {
					p.create(text(3, 32), 2)
				}
				if dead {
					p.arm(1)
					p.flush()
				}
				for _, seed := range wrong {
					p.create(seed, height)
				}
				p.create(counted(), height)
				p.create(counted(), height)
			}
		}
	}
	for n := range 70 {
		want := api.ErrArg
		if n == 32 {
			want = api.OK
		}
		if e := empty(t).create(text(1, n), 3); e != want {
			t.Errorf("G1: a seed of %d bytes: %d, want %d", n, e, want)
		}
	}
}

// What is refused is no act, and writes nothing.
func TestRefusedIsNoAct(t *testing.T) {
	p := empty(t)
	p.arm(4)
	p.create("", 1)
	p.create(counted(), 9)
	p.open()
	if e := p.create(counted(), 0); e != api.OK {
		t.Errorf("G1: what is refused was an act: %d", e)
	}
	p.arm(3)
	p.create(counted(), 0)
	o, _ := p.open()
	again, _ := p.open()
	o.hasKey()
	if _, e := o.sign("a"); e != api.OK {
		t.Errorf("G4: to open, or to create again, was an act: %d", e)
	}
	p.arm(1)
	o.sign("b")
	again.sign("b")
	o.hasKey()
	again.hasKey()
	p.open()
	p.create(counted(), 0)
	if p.d.Dead() {
		t.Error("G4: what is refused was an act")
	}
	p.flush()
	p.same("G4")
}

// tears are the lists of what stays of so many pending writes: of the first one each beginning.
func tears(pending int) [][]api.Keep {
	l := [][]api.Keep{nil}
	for bytes := 0; bytes <= 256 && pending > 0; bytes++ {
		l = append(l, []api.Keep{{N: 0, Bytes: bytes}})
		for _, other := range []int{0, 5, 37, 224, 256} {
			if pending > 1 && (bytes%16 == 0 || bytes > 218) {
				l = append(l, []api.Keep{{N: 1, Bytes: other}, {N: 0, Bytes: bytes}})
			}
		}
	}
	return l
}

// Create dies in each act, and each beginning of each page stays.
func TestCreateDies(t *testing.T) {
	old := [][]string{
		{blank, blank}, {page("x"), page("y")}, {recordPage(2, 3, counted()), recordPage(2, 2, counted())},
		{recordPage(2, 4, counted()), recordPage(2, 3, text(1, 32))}, {text(1, 256), recordPage(1, 3, counted())},
	}
	for _, pages := range old {
		for act := 1; act <= 3; act++ {
			for _, l := range tears(act - 1) {
				p := on(t, append(slices.Clone(pages), blank, blank))
				p.arm(act)
				if e := p.create(counted(), 2); e != api.ErrDead {
					t.Fatalf("G1: it dies in the act %d: %d", act, e)
				}
				p.create(counted(), 2)
				p.create("", 9)
				p.open()
				p.crash(l...)
				p.open()
				p.create(text(1, 32), 1)
				p.open()
			}
		}
	}
}

// Of a device of noughts on which Create has died nothing stands, or what it was to lay.
func TestCreateDiesOnNoughts(t *testing.T) {
	for _, seed := range seeds() {
		whole := len(strings.TrimRight(recordPage(2, 0, seed), "\x00"))
		for bytes := range 257 {
			p := empty(t)
			p.arm(3)
			p.create(seed, 2)
			p.crash(api.Keep{N: 0, Bytes: bytes})
			want := api.ErrSignerForm
			if bytes >= whole {
				want = api.OK
			}
			if _, e := p.open(); e != want {
				t.Errorf("G6: of Create %d bytes are kept: %d, want %d", bytes, e, want)
			}
		}
	}
}

// Each byte of both pages, as another one: the page is no record's any more, or another one's.
func TestEachByte(t *testing.T) {
	lefts := map[int]int{}
	for _, number := range []int{0, 1, 2, 3, 4, 255, 256} {
		height := 2
		if number > 4 {
			height = 8
		}
		pages := laidOut(4, height, number, counted())
		for at := range 2 {
			for i := range 256 {
				for _, by := range []byte{1, 2, 4, 128, 255} {
					l := slices.Clone(pages)
					b := []byte(l[at])
					b[i] ^= by
					l[at] = string(b)
					o, e := on(t, l).open()
					if e == api.OK {
						lefts[o.s.Left()]++
					}
				}
			}
		}
	}
	for _, left := range []int{0, 1, 2, 3, 4, 256 - 255, 256 - 254} {
		if lefts[left] < 1000 {
			t.Errorf("G2: so many signers with so many keys left: %v", lefts)
		}
	}
}

// Records of any numbers and heights, on both pages.
func TestAnyRecords(t *testing.T) {
	opened := 0
	for height := range 11 {
		for _, other := range []int{height, (height + 1) % 11} {
			most := 1 << height
			numbers := []int{0, 1, 2, 3, most/2 - 1, most / 2, most - 2, most - 1, most, most + 1, most + 2, 255, 256, 257, 510, 512, 65534, 65535}
			for _, even := range numbers {
				for _, odd := range numbers {
					for _, seed := range []string{counted(), counted()[:31] + "x"} {
						l := []string{recordPage(height, even, counted()), recordPage(other, odd, seed), blank, blank}
						if _, e := on(t, l).open(); e == api.OK {
							opened++
						}
						l[0], l[1] = l[1], l[0]
						on(t, l).open()
					}
				}
			}
		}
	}
	if opened < 500 {
		t.Errorf("G2: only %d signers stood there", opened)
	}
}

// One record alone, whatever else stands on the other page.
func TestOneRecord(t *testing.T) {
	others := []string{blank, page("x"), text(1, 256), recordPage(2, 5, counted()), recordPage(9, 1, counted()), recordPage(9, 2, counted()), "\x00" + recordPage(2, 1, counted())[1:]}
	for height := range 9 {
		for number := range 1<<height + 3 {
			for _, other := range others {
				l := []string{other, other, blank, blank}
				l[number%2] = recordPage(height, number, counted())
				want := api.ErrSignerForm
				if number <= 1<<height {
					want = api.OK
				}
				if _, e := on(t, l).open(); e != want {
					t.Errorf("G2: the number %d of the height %d: %d, want %d", number, height, e, want)
				}
				l[0], l[1] = l[1], l[0]
				if _, e := on(t, l).open(); e != api.ErrSignerForm {
					t.Errorf("G2: the number %d where it does not belong: %d", number, e)
				}
			}
		}
	}
}

// Of two records that agree the one with the greater number stands, however far they are apart.
func TestGreaterNumber(t *testing.T) {
	for even := 0; even <= 16; even += 2 {
		for odd := 1; odd <= 15; odd += 2 {
			o, e := on(t, []string{recordPage(4, even, counted()), recordPage(4, odd, counted()), blank, blank}).open()
			if e != api.OK || o.s.Left() != 16-max(even, odd) {
				t.Fatalf("G2: the numbers %d and %d: %d", even, odd, e)
			}
			s, e := o.sign("a")
			if i, _ := signer.Index(s); e == api.OK && i != max(even, odd) {
				t.Errorf("G4: the numbers %d and %d: Index %d", even, odd, i)
			}
		}
	}
}

// What is pending is told, too, and lasts with what is signed.
func TestWhatIsPending(t *testing.T) {
	p := on(t, laidOut(4, 2, 1, counted()))
	o, _ := p.open()
	p.write(0, recordPage(2, 2, counted()))
	if x, e := p.open(); e != api.OK || x.s.Left() != 2 {
		t.Errorf("G2: a record that is pending: %d", e)
	}
	if _, e := o.sign("a"); e != api.ErrSignerBack {
		t.Errorf("G4: a record that is pending: %d", e)
	}
	p.crash()
	if x, e := p.open(); e != api.OK || x.s.Left() != 3 {
		t.Errorf("G2: a record that was pending: %d", e)
	}
	p.write(0, recordPage(2, 2, counted()))
	x, _ := p.open()
	if _, e := x.sign("a"); e != api.OK || len(p.d.Pending()) > 0 {
		t.Errorf("G4: behind a record that is pending: %d", e)
	}
	p.create(counted(), 1)
}

func TestSignAll(t *testing.T) {
	heights := 9
	if testing.Short() {
		heights = 6
	}
	for height := range heights {
		o := made(t, seeds()[height], height)
		for i := range 1 << height {
			o.is()
			text := texts()[i%len(texts())]
			s, e := o.sign(text)
			if n, f := signer.Index(s); n != i || e != api.OK || f != api.OK || len(s) != 2+2144+32*height {
				t.Errorf("G4: the height %d, the key %d: %d, %d, Index %d", height, i, e, f, n)
			}
			if e := isVerify(t, keyOf(o.m.seed, height), text, s); e != api.OK {
				t.Errorf("G5: the height %d, the key %d: %d", height, i, e)
			}
		}
		o.hasKey()
		for range 3 {
			if s, e := o.sign("more"); s != "" || e != api.ErrSignerUsed || o.s.Doubt() || o.s.Left() != 0 {
				t.Errorf("G4: the height %d, all are used: %d", height, e)
			}
		}
		again, _ := o.open()
		if _, e := again.sign("more"); e != api.ErrSignerUsed {
			t.Errorf("G4: the height %d, all are used, opened again: %d", height, e)
		}
		again.hasKey()
		if e := o.create(counted(), height); e != api.ErrSignerBack {
			t.Errorf("G1: the height %d, all are used: %d", height, e)
		}
	}
}

// The key can be asked ahead of the first signature, behind it, and in between.
func TestKeyAnyTime(t *testing.T) {
	for at := range 5 {
		o := made(t, text(at, 32), 2)
		for i := range 4 {
			if i == at {
				o.hasKey()
			}
			o.sign("a")
		}
		o.hasKey()
		o.hasKey()
		o.arm(1)
		o.flush()
		o.hasKey()
		o.is()
	}
}

// Of several errors the one that the promise names first: dead, in doubt, used.
func TestSignWhichError(t *testing.T) {
	for _, used := range []bool{false, true} {
		for _, doubt := range []bool{false, true} {
			for _, back := range []bool{false, true} {
				for _, dead := range []bool{false, true} {
					p := on(t, laidOut(4, 1, 1, counted()))
					o, _ := p.open()
					if used {
						o.sign("a")
					}
					if doubt {
						was, _ := p.d.Read(0)
						p.write(0, page("x"))
						o.sign("b")
						p.write(0, was)
						p.flush()
					}
					if back {
						p.write(o.m.number%2, blank)
						p.flush()
					}
					if dead {
						p.arm(1)
						p.flush()
					}
					want := api.OK
					switch {
					case dead:
						want = api.ErrDead
					case doubt || back:
						want = api.ErrSignerBack
					case used:
						want = api.ErrSignerUsed
					}
					if _, e := o.sign("c"); e != want {
						t.Errorf("G4: used %t, doubt %t, back %t, dead %t: %d, want %d", used, doubt, back, dead, e, want)
					}
					o.sign("d")
				}
			}
		}
	}
}

// A dead device alone does not bring into doubt: it may live again as it was.
func TestDeadIsNoDoubt(t *testing.T) {
	o := made(t, counted(), 1)
	o.arm(1)
	o.flush()
	for range 2 {
		if _, e := o.sign("a"); e != api.ErrDead || o.s.Doubt() {
			t.Errorf("G4: of a dead device: %d, Doubt %t", e, o.s.Doubt())
		}
	}
	o.crash()
	if _, e := o.sign("a"); e != api.OK {
		t.Errorf("G4: of a device that lives again: %d", e)
	}
}

// Whatever stands there otherwise than the signer says brings it into doubt, for good.
func TestNotWhatItSays(t *testing.T) {
	is := laidOut(4, 2, 1, counted())
	for _, c := range []struct{ name, zeroth, first string }{
		{"another seed", recordPage(2, 0, text(1, 32)), recordPage(2, 1, text(1, 32))},
		{"another last byte of the seed", blank, recordPage(2, 1, counted()[:31]+"x")},
		{"another height", recordPage(3, 0, counted()), recordPage(3, 1, counted())},
		{"a lesser height", page("x"), recordPage(0, 1, counted())},
		{"a number that is greater by one", recordPage(2, 2, counted()), is[1]},
		{"a number that is greater by two", is[0], recordPage(2, 3, counted())},
		{"a lesser number", is[0], blank},
		{"a record that does not belong there", blank, is[0]},
		{"two seeds", recordPage(2, 0, text(1, 32)), is[1]},
		{"two heights", recordPage(3, 0, counted()), is[1]},
		{"a torn page", is[0], is[1][:255] + "\xff"},
		{"nothing", blank, blank},
	} {
		for _, flushed := range []bool{false, true} {
			p := on(t, is)
			o, _ := p.open()
			p.write(0, c.zeroth)
			p.write(1, c.first)
			if flushed {
				p.flush()
			}
			for range 2 {
				if s, e := o.sign("a"); s != "" || e != api.ErrSignerBack || !o.s.Doubt() || o.s.Left() != 3 {
					t.Errorf("G4: %s: %d, Doubt %t", c.name, e, o.s.Doubt())
				}
			}
			p.write(0, is[0])
			p.write(1, is[1])
			p.flush()
			if _, e := o.sign("a"); e != api.ErrSignerBack || !o.s.Doubt() {
				t.Errorf("G4: %s, and as it was again: %d", c.name, e)
			}
			x, _ := p.open()
			if _, e := x.sign("a"); e != api.OK {
				t.Errorf("G4: %s, and as it was again, opened anew: %d", c.name, e)
			}
		}
	}
}

// What stands on the other page does not matter, if it is no record's.
func TestOtherPage(t *testing.T) {
	for _, data := range []string{blank, page("x"), recordPage(2, 6, counted()), recordPage(2, 1, counted()), recordPage(9, 0, text(1, 32))} {
		p := on(t, laidOut(4, 2, 1, counted()))
		o, _ := p.open()
		p.write(0, data)
		if s, e := o.sign("a"); len(s) == 0 || e != api.OK {
			t.Errorf("G4: %q on the other page: %d", data[:8], e)
		}
	}
}

// twisted are texts that are nearly a signature.
func twisted(r *rand.Rand, s string) []string {
	l := []string{"", s[1:], s[:len(s)-1], s + "x", s + s, s[:len(s)-32], s + strings.Repeat("x", 32), s[2:], "\x00" + s, s + strings.Repeat("\x00", 256)}
	for range 12 {
		b := []byte(s)
		b[r.Intn(len(b))] ^= byte(1 + r.Intn(255))
		l = append(l, string(b))
	}
	for i := 2146; i+64 <= len(s); i += 32 {
		l = append(l, s[:i]+s[i+32:i+64]+s[i:i+32]+s[i+64:], s[:i]+s[i+32:])
	}
	for _, index := range []int{0, 1, 2, 127, 128, 255, 256, 257, 511, 512, 65535} {
		l = append(l, string([]byte{byte(index / 256), byte(index % 256)})+s[2:])
	}
	return l
}

func TestVerify(t *testing.T) {
	r := rand.New(rand.NewSource(1))
	for height := range 9 {
		key := keyOf(counted(), height)
		other := keyOf(text(7, 32), min(height, 3))
		keys := []string{"", key[1:], key + "x", key[:31] + "\x01", "\x01" + key[1:], other, key + key, leavesOf(counted(), height)[0] + "x", digest.Empty()}
		for _, index := range []int{0, 1<<height - 1, r.Intn(1 << height)} {
			text := texts()[r.Intn(len(texts()))]
			s := signature(counted(), height, index, text)
			if e := isVerify(t, key, text, s); e != api.OK {
				t.Fatalf("the model refuses a right signature: %d", e)
			}
			isIndex(t, s)
			for _, key := range keys {
				isVerify(t, key, text, s)
				isVerify(t, key, text, s[1:])
			}
			for _, other := range append(texts(), text+"x", text+"\x00") {
				if e := isVerify(t, key, other, s); (e == api.OK) != (other == text) {
					t.Errorf("G5: %q's signature with %q: %d", text, other, e)
				}
			}
			for _, x := range twisted(r, s) {
				if e := isVerify(t, key, text, x); e == api.OK && x != s {
					t.Errorf("G5: the height %d: a twisted signature", height)
				}
				isVerify(t, "", text, x)
				isIndex(t, x)
			}
		}
	}
}

// Each length: those of the heights 0 to 8 alone are right.
func TestEachLength(t *testing.T) {
	key := keyOf(counted(), 0)
	right := 0
	for n := range 2146 + 32*12 {
		s := strings.Repeat("\x00", n)
		isIndex(t, s)
		if e := isVerify(t, key, "a", s); e == api.ErrSignerBad {
			right++
		}
	}
	if right != 9 {
		t.Errorf("G5: %d lengths are right", right)
	}
	for _, n := range []int{1 << 16, 2146 + 1<<16, 2146 + 1<<20, 2146 + 32*256, 2146 + 32*(256+4)} {
		isIndex(t, strings.Repeat("\x00", n))
		isVerify(t, key, "a", strings.Repeat("\x00", n))
	}
}

// Each index: those of the height's keys alone are right.
func TestEachIndex(t *testing.T) {
	for height := range 9 {
		rest := strings.Repeat("x", 2144+32*height)
		right := 0
		for index := range 65536 {
			s := string([]byte{byte(index / 256), byte(index % 256)}) + rest
			isIndex(t, s)
			if _, e := signer.Index(s); e == api.OK {
				right++
			}
			if index > 256 && index%1001 != 0 {
				continue
			}
			want := api.ErrSignerForm
			if index < 1<<height {
				want = api.ErrSignerBad
			}
			if e := isVerify(t, counted(), "a", s); e != want {
				t.Errorf("G5: the height %d, the index %d: %d, want %d", height, index, e, want)
			}
		}
		if right != 1<<height {
			t.Errorf("G5: of the height %d %d indices are right", height, right)
		}
	}
}

// A tree's path may be taken for a longer or a shorter one only by a key of its own.
func TestOtherHeights(t *testing.T) {
	for height := range 5 {
		s := signature(counted(), height, 0, "a")
		for other := range 9 {
			if e := isVerify(t, keyOf(counted(), other), "a", s); (e == api.OK) != (other == height) {
				t.Errorf("G5: a signature of the height %d under a key of the height %d: %d", height, other, e)
			}
			cut := s
			if n := 2146 + 32*other; n <= len(s) {
				cut = s[:n]
			}
			isVerify(t, keyOf(counted(), other), "a", cut)
		}
	}
}

// What Open gives beside an error is no signer; no call on it panics.
func TestNoSigner(t *testing.T) {
	d, _ := device.New(4)
	none, e := signer.Open(d)
	if none != nil || e != api.ErrSignerForm {
		t.Fatalf("G2: Open of noughts: %d", e)
	}
	for _, s := range []*signer.Signer{none, {}} {
		for range 2 {
			if s.Key() != "" || s.Left() != 0 || !s.Doubt() {
				t.Errorf("R1: no signer: Key %x, Left %d, Doubt %t", s.Key(), s.Left(), s.Doubt())
			}
			if x, e := s.Sign("a"); x != "" || e != api.ErrDead {
				t.Errorf("R1: no signer signs: %d bytes, %d", len(x), e)
			}
		}
	}
	no, _ := device.New(0)
	if e := signer.Create(no, counted(), 2); e != api.ErrDead {
		t.Errorf("R1: Create on no device: %d", e)
	}
	if s, e := signer.Open(no); s != nil || e != api.ErrDead {
		t.Errorf("R1: Open of no device: %d", e)
	}
}

func TestGreatText(t *testing.T) {
	if testing.Short() {
		t.Skip("it has 16777216 bytes")
	}
	great := strings.Repeat("0123456789abcdef", 1<<20)
	o := made(t, counted(), 1)
	s, e := o.sign(great)
	if e != api.OK || isVerify(t, o.s.Key(), great, s) != api.OK || isVerify(t, o.s.Key(), great[1:], s) != api.ErrSignerBad {
		t.Errorf("G4: a great text: %d", e)
	}
}
