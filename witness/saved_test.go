package witness_test

import (
	"encoding/hex"
	"math"
	"math/rand"
	"slices"
	"strings"
	"testing"

	"scrivener/api"
	"scrivener/witness"
)

// summed is a text with its digest behind it.
func summed(s string) string { return s + hashOf(s) }

// knows is what a witness of such logs saves.
func knows(logs ...string) string {
	return summed("SW" + slowNum(len(logs)) + strings.Join(logs, ""))
}

// at is one log of it.
func at(origin string, size int, root string) string {
	return savedLog(origin, watched{bytesOf(1, 32), api.Head{Size: size, Root: root}})
}

const (
	knownNone   = "535700f58cae81768e0f0fc3d6cf473798ece9c9490f6fd645b9e8ed62c81edba969ab"
	knownTwo    = "53570201613e3f404142434445464748494a4b4c4d4e4f505152535455565758595a5b5c5d00e3b0c44298fc1c149afbf4c8996fb92427ae41e4649b934ca495991b7852b8550d6c6f672e6578616d706c652f311f202122232425262728292a2b2c2d2e2f303132333435363738393a3b3c3d3e00e3b0c44298fc1c149afbf4c8996fb92427ae41e4649b934ca495991b7852b85535caffa4a1435afe8450aeebabffae8bd75d5d89d3ace0d8bedbb39bd936a823"
	knownSigned = "53570201613e3f404142434445464748494a4b4c4d4e4f505152535455565758595a5b5c5dac025d5e5f606162636465666768696a6b6c6d6e6f707172737475767778797a7b7c0d6c6f672e6578616d706c652f311f202122232425262728292a2b2c2d2e2f303132333435363738393a3b3c3d3e8080808080207c7d7e7f808182838485868788898a8b8c8d8e8f909192939495969798999a9bfa0c67c2c6f59d2829deb023a1a4ef3a6833f3eb52f37be70de02662278485d6"
)

// The texts were worked out elsewhere.
func TestKnownSaved(t *testing.T) {
	w, _ := witness.New("w", nil)
	if s := hex.EncodeToString([]byte(w.Saved())); s != knownNone {
		t.Errorf("W4: Saved: %s", s)
	}
	w.Watch(api.Known{Name: "log.example/1", Key: bytesOf(1, 32)})
	w.Watch(api.Known{Name: "a", Key: bytesOf(2, 32)})
	if s := hex.EncodeToString([]byte(w.Saved())); s != knownTwo {
		t.Errorf("W4: Saved: %s", s)
	}
	saved, _ := hex.DecodeString(knownSigned)
	x, e := witness.Load("w", nil, string(saved))
	if e != api.OK {
		t.Fatalf("W1: Load: %d", e)
	}
	if l := x.Logs(); !slices.Equal(l, []string{"a", "log.example/1"}) {
		t.Errorf("W1: Load: Logs: %q", l)
	}
	for origin, want := range map[string]api.Head{"a": {Size: 300, Root: bytesOf(3, 32)}, "log.example/1": {Size: 1 << 40, Root: bytesOf(4, 32)}} {
		if h, e := x.Head(origin); h != want || e != api.OK {
			t.Errorf("W1: Load: Head(%q): %v, %d", origin, h, e)
		}
	}
	if s := x.Saved(); s != string(saved) {
		t.Errorf("W4: Saved of what was loaded: %q", s)
	}
}

// Each text beside one that is saved is refused.
func TestSpoiltSaved(t *testing.T) {
	root := bytesOf(2, 32)
	for _, s := range []string{knows(), knows(at("a", 0, hashOf(""))), knows(at("a", 5, root), at("b/c", 1<<40, root), at("z", 0, hashOf("")))} {
		if isLoad(t, s) != api.OK {
			t.Fatalf("W1: %q is refused", s)
		}
		for i := range s {
			for _, b := range []byte{s[i] + 1, s[i] - 1, s[i] ^ 0x80, 0, 'S', 0xff} {
				isLoad(t, s[:i]+string([]byte{b})+s[i+1:])
				isLoad(t, s[:i]+string([]byte{b})+s[i:])
				// With the right sum behind it.
				if body := s[:len(s)-32]; i < len(body) {
					isLoad(t, summed(body[:i]+string([]byte{b})+body[i+1:]))
					isLoad(t, summed(body[:i]+string([]byte{b})+body[i:]))
				}
			}
			isLoad(t, s[:i])
			isLoad(t, s[i:])
			isLoad(t, summed(s[:i]))
			isLoad(t, s[:i]+s[i+1:])
			isLoad(t, s[:i]+s)
		}
		for _, behind := range []string{"\x00", " ", "SW", hashOf(s), s} {
			if isLoad(t, s+behind) != api.ErrCodecForm || isLoad(t, summed(s+behind)) != api.ErrCodecForm {
				t.Errorf("W1: something stands behind it: %q", behind)
			}
		}
	}
	if isLoad(t, "") != api.ErrCodecForm || isLoad(t, hashOf("")) != api.ErrCodecForm || isLoad(t, summed("SW")) != api.ErrCodecForm {
		t.Error("W1: a text of nothing")
	}
}

// What has the right sum is held to what the words say of each field.
func TestFieldsOfSaved(t *testing.T) {
	root, empty := bytesOf(2, 32), hashOf("")
	var many []string
	for _, name := range numbered(17) {
		many = append(many, at(name, 5, root))
	}
	right := []string{
		knows(), knows(many[:16]...), knows(many[0]), knows(at("a", 1, empty)), knows(at("a", 0, empty)), knows(at("a", 1<<40, root)), knows(at("a", 1<<40-1, root)), knows(at(strings.Repeat("z", 32), 127, root)),
		knows(at("-", 1, root), at(".", 1, root), at("/", 1, root), at("0", 1, root), at("a", 1, root), at("a-", 1, root), at("aa", 1, root)),
	}
	for i, s := range right {
		if isLoad(t, s) != api.OK {
			t.Errorf("W1: line %d is refused", i)
		}
	}
	wrong := []string{
		knows(many...), knows(many[1], many[0]), knows(many[0], many[0]), knows(many[0], many[2], many[1]), knows(at("aa", 1, root), at("a", 1, root)), knows(at("a", 1, root), at("a", 2, root)),
		knows(at("a", 0, root)), knows(at("a", 0, strings.Repeat("\x00", 32))), knows(at("a", 1<<40+1, root)), knows(at("a", 1<<62, root)), knows(at("a", math.MaxInt, root)),
		knows(at("a", 5, root[:31])), knows(at("a", 5, root+"x")), knows(at("a", 5, "")), knows(at("a", 0, "")), knows(at("a", 0, empty[:31])), knows(many[0], ""), knows(many[0] + "x"), knows(many[0] + many[1]),
		knows(savedLog("a", watched{bytesOf(1, 31), api.Head{Size: 5, Root: root}})), knows(savedLog("a", watched{bytesOf(1, 33), api.Head{Size: 5, Root: root}})), knows(savedLog("a", watched{"", api.Head{Size: 5, Root: root}})),
		summed("SW\x80\x00"), summed("SW\x81\x00" + many[0]), summed("SW\x01\x81\x00a" + many[0][5:]), summed("SW\x01" + many[0][:37] + "\x85\x00" + root),
		summed("sw\x00"), summed("SG\x00"), summed("WS\x00"), summed("SW\x01" + many[0])[1:], summed("\x00SW\x00"), summed("SW" + slowNum(1<<62)), summed("SW" + slowNum(1<<40) + many[0]), summed("SW\xff\xff\xff\xff\xff\xff\xff\xff\xff\x01"),
		knows() + knows(), knows(many[0]) + hashOf(knows(many[0])),
	}
	for _, name := range oddNames() {
		wrong = append(wrong, knows(at(name, 5, root)), knows(at("0", 5, root), at(name, 5, root)))
	}
	for i, s := range wrong {
		if isLoad(t, s) != api.ErrCodecForm {
			t.Errorf("W1: line %d is taken: %q", i, s)
		}
	}
	for _, name := range rightNames() {
		if isLoad(t, knows(at(name, 5, root))) != api.OK {
			t.Errorf("W1: the origin %q is refused", name)
		}
	}
	// The sum of another text, or of less.
	body := "SW" + slowNum(1) + many[0]
	for _, sum := range []string{hashOf(""), hashOf(body[:len(body)-1]), hashOf(body + "x"), hashOf("SW"), strings.Repeat("\x00", 32), hashOf(body)[:31], hashOf(hashOf(body))} {
		if isLoad(t, body+sum) != api.ErrCodecForm {
			t.Errorf("W1: the sum %x is taken", sum)
		}
	}
}

// What any witness saves is loaded, and saved again as it was.
func TestAnySaved(t *testing.T) {
	r := rand.New(rand.NewSource(2))
	names := rightNames()
	for range 500 {
		logs := map[string]watched{}
		for range r.Intn(17) {
			h := api.Head{Size: int(r.Uint64() & (1<<40 - 1) >> r.Intn(41)), Root: bytesOf(r.Intn(256), 32)}
			if h.Size == 0 {
				h.Root = hashOf("")
			}
			logs[names[r.Intn(len(names))]] = watched{bytesOf(r.Intn(256), 32), h}
		}
		s := slowSaved(logs)
		if isLoad(t, s) != api.OK {
			t.Fatalf("W1: %q is refused", s)
		}
		i := r.Intn(len(s) - 32)
		for range 20 {
			isLoad(t, summed(s[:i]+string([]byte{byte(r.Intn(256))})+s[i+r.Intn(2):len(s)-32]))
			i = r.Intn(len(s) - 32)
		}
	}
}

// Two that know unlike things save unlike texts, and any order of watching is the same.
func TestSavedTellsAll(t *testing.T) {
	r := rand.New(rand.NewSource(3))
	logs := map[string]watched{}
	var known []api.Known
	for i, name := range numbered(16) {
		logs[name] = watched{bytesOf(i, 32), api.Head{Root: hashOf("")}}
		known = append(known, api.Known{Name: name, Key: bytesOf(i, 32)})
	}
	want := slowSaved(logs)
	for range 50 {
		r.Shuffle(16, func(i, j int) { known[i], known[j] = known[j], known[i] })
		w, _ := witness.New("w", nil)
		for _, k := range known {
			w.Watch(k)
		}
		if s := w.Saved(); s != want {
			t.Fatalf("W4: Saved hangs on the order of watching")
		}
	}
}
