package message_test

import (
	"math/rand"
	"slices"
	"strings"
	"testing"

	"scrivener/api"
	"scrivener/cache"
	"scrivener/codec"
	"scrivener/message"
	"scrivener/plan"
	"scrivener/tile"
)

// What follows: M5, and with it P4 of the whole as far as it speaks of messages. Nothing here is taken from the model: messages are held against one another, against layer 2, and against what layer 16 answers.

// A beginning of a frame, that is not the whole, is short, whatever the message is.
func TestBeginnings(t *testing.T) {
	r := rand.New(rand.NewSource(11))
	for range 400 {
		s, _ := message.Encode(someRequest(r, 1, 12, 4))
		for n := range min(len(s), 400) {
			if x, rest, e := message.Decode(s[:n]); !sameRequest(x, api.Request{}) || rest != "" || e != api.ErrMessageShort {
				t.Fatalf("M5: %d bytes of %s: %s, %s, %d", n, short(s), short(x), short(rest), e)
			}
		}
		kind := r.Intn(13)
		s, _ = message.EncodeReply(kind, someReply(r, kind, 4))
		for n := range min(len(s), 400) {
			// To whatever kind: it is not known yet.
			if x, rest, e := message.DecodeReply(r.Intn(13), s[:n]); !sameReply(x, api.Reply{}) || rest != "" || e != api.ErrMessageShort {
				t.Fatalf("M5: %d bytes of %s: %s, %s, %d", n, short(s), short(x), short(rest), e)
			}
		}
	}
}

// Messages one behind the other are told as they were laid down.
func TestInRow(t *testing.T) {
	r := rand.New(rand.NewSource(12))
	var requests []api.Request
	var replies []api.Reply
	var kinds []int
	asked, told := "", ""
	for range 300 {
		x := someRequest(r, 1, 12, 5)
		s, _ := message.Encode(x)
		y := someReply(r, x.Kind, 5)
		u, _ := message.EncodeReply(x.Kind, y)
		requests, replies, kinds, asked, told = append(requests, x), append(replies, y), append(kinds, x.Kind), asked+s, told+u
	}
	for i := range requests {
		x, rest, e := message.Decode(asked)
		if !sameRequest(x, requests[i]) || e != api.OK {
			t.Fatalf("M5: behind %d requests: %s, %d", i, short(x), e)
		}
		asked = rest
	}
	for i := range replies {
		x, rest, e := message.DecodeReply(kinds[i], told)
		if !sameReply(x, replies[i]) || e != api.OK {
			t.Fatalf("M5: behind %d replies: %s, %d", i, short(x), e)
		}
		told = rest
	}
	if asked != "" || told != "" {
		t.Errorf("M5: %d and %d bytes are left", len(asked), len(told))
	}
}

// smallRequests are all that have small numbers and few elements, each once.
func smallRequests() []api.Request {
	var l []api.Request
	lists := [][]int{nil, {0}, {1}, {2}, {0, 1}, {0, 2}, {1, 2}, {0, 1, 2}, {128}, {0, 129}}
	entries := [][]string{nil, {""}, {"\x00"}, {"\x01"}, {"", ""}, {"\x00", ""}, {"", "\x00"}, {"\x00\x00"}, {"\x01\x00"}}
	for kind := range 13 {
		for n := range 27 {
			x := api.Request{Kind: kind, A: n % 3, B: n / 3 % 3, Size: n / 9}
			for _, list := range lists {
				x.List = list
				l = append(l, x)
			}
			x.List = nil
			for _, texts := range entries[1:] {
				x.Entries = texts
				l = append(l, x)
			}
		}
	}
	var asks []api.Request
	for _, x := range l {
		if _, e := message.Encode(x); e == api.OK && x.Kind >= 3 && x.Kind <= 7 {
			asks = append(asks, x)
		}
	}
	for _, x := range asks {
		l = append(l, api.Request{Kind: api.AskGroup, Asks: []api.Request{x}})
		for _, y := range asks {
			l = append(l, api.Request{Kind: api.AskGroup, Asks: []api.Request{x, y}})
		}
	}
	return l
}

// No two requests have the same bytes.
func TestNoTwoRequests(t *testing.T) {
	was := map[string]api.Request{}
	for _, x := range smallRequests() {
		s, e := message.Encode(x)
		if e != api.OK {
			continue
		}
		if other, ok := was[s]; ok && !sameRequest(other, x) {
			t.Fatalf("M5: %v and %v are both %x", other, x, s)
		}
		was[s] = x
	}
	if len(was) < 1000 {
		t.Errorf("only %d were taken", len(was))
	}
}

// No two replies to one kind have the same bytes; nor have those to unlike kinds.
func TestNoTwoReplies(t *testing.T) {
	type told struct {
		kind int
		r    api.Reply
	}
	h := hash("\x00")
	hashes := [][]string{nil, {h}, {hash("\x01")}, {h, h}}
	entries := [][]string{nil, {""}, {"\x00"}, {"", ""}, {h}}
	var parts []api.Reply
	for status := range 9 {
		for _, root := range []string{"", h, hash("\x01")} {
			for _, l := range hashes {
				parts = append(parts, api.Reply{Status: api.Status(status), Root: root, Hashes: l})
			}
		}
	}
	all := slices.Clone(parts)
	for i, x := range parts {
		all = append(all, api.Reply{Replies: []api.Reply{x}}, api.Reply{Replies: []api.Reply{x, parts[i*5%len(parts)]}})
		for n := range 27 {
			for _, l := range entries {
				x.Size, x.A, x.B, x.Entries = n%3, n/3%3, n/9, l
				all = append(all, x)
			}
		}
	}
	was := map[string]told{}
	for kind := range 13 {
		for _, x := range all {
			s, e := message.EncodeReply(kind, x)
			if e != api.OK {
				continue
			}
			if other, ok := was[s]; ok && (other.kind != kind || !sameReply(other.r, x)) {
				t.Fatalf("M5: %v and %v to %d are both %x", other, x, kind, s)
			}
			was[s] = told{kind, x}
		}
	}
	if len(was) < 300 {
		t.Errorf("only %d were taken", len(was))
	}
}

// The payload is what layer 2's Reader takes, field by field.
func TestAsCodec(t *testing.T) {
	open := func(s string, e api.Errno) *codec.Reader {
		payload, rest, f := codec.Unframe(s)
		if e != api.OK || rest != "" || f != api.OK {
			t.Fatalf("M1: %x: %d, %d", s, e, f)
		}
		return codec.NewReader(payload)
	}
	whole := func(r *codec.Reader, ok bool) {
		t.Helper()
		if e, n := r.Done(); !ok || e != api.OK {
			t.Errorf("M1, M3: not as layer 2 has it: %d behind %d", e, n)
		}
	}
	h := []string{hash("h"), hash("g")}
	r := open(message.Encode(api.Request{Kind: 1, Entries: []string{"a", strings.Repeat("b", 300)}}))
	whole(r, r.Byte() == 1 && len(r.Texts(32, 4096)) == 2)
	r = open(message.Encode(api.Request{Kind: 6, Size: 1000, List: []int{5, 500, 900}}))
	whole(r, r.Byte() == 6 && r.Num() == 1000 && slices.Equal(r.Rising(256), []int{5, 500, 900}))
	r = open(message.Encode(api.Request{Kind: 9, A: 400, B: 500, Size: 600}))
	whole(r, r.Byte() == 9 && r.Num() == 400 && r.Num() == 500 && r.Num() == 600)
	r = open(message.Encode(api.Request{Kind: 12, Asks: []api.Request{{Kind: 7, List: []int{4, 400}}, {Kind: 3, Size: 900}}}))
	whole(r, r.Byte() == 12 && r.Num() == 2 && r.Byte() == 7 && slices.Equal(r.Rising(64), []int{4, 400}) && r.Byte() == 3 && r.Num() == 900)
	r = open(message.EncodeReply(10, api.Reply{A: 300, B: 1, Entries: []string{"a", "bc"}, Hashes: h}))
	whole(r, r.Byte() == 10 && r.Byte() == 0 && r.Num() == 300 && r.Byte() == 1 && slices.Equal(r.Texts(4096, 1000), []string{"a", "bc"}) && slices.Equal(r.Hashes(32768), h))
	r = open(message.EncodeReply(1, api.Reply{Size: 301, A: 300, Root: h[0]}))
	whole(r, r.Byte() == 1 && r.Byte() == 0 && r.Num() == 301 && r.Num() == 300 && r.Raw(32) == h[0])
	r = open(message.EncodeReply(12, api.Reply{Replies: []api.Reply{{Root: h[1]}, {Status: 2}, {Hashes: h}}}))
	whole(r, r.Byte() == 12 && r.Byte() == 0 && r.Num() == 3 && r.Byte() == 0 && r.Byte() == 1 && r.Raw(32) == h[1] && r.Byte() == 2 && r.Byte() == 0 && r.Byte() == 0 && slices.Equal(r.Hashes(32768), h))
}

// What layer 16 takes and answers goes across as a group, and its reply.
func TestPlansGoAcross(t *testing.T) {
	r := rand.New(rand.NewSource(13))
	tree, _ := tile.New(3)
	for range 200 {
		tree.Add(someText(r, 32))
	}
	for range 200 {
		asks := make([]api.Request, 1+r.Intn(64))
		for i := range asks {
			n := 1 + r.Intn(220)
			asks[i] = []api.Request{{Kind: 3, Size: n}, {Kind: 4, A: r.Intn(n), Size: n}, {Kind: 5, A: r.Intn(n), Size: n}, {Kind: 6, Size: n, List: []int{n / 3, n/3 + 1 + r.Intn(3)}}, {Kind: 7, List: []int{n, n + 1, n + 5}}}[r.Intn(5)]
		}
		s, e := message.Encode(api.Request{Kind: api.AskGroup, Asks: asks})
		got, rest, f := message.Decode(s)
		if e != api.OK || f != api.OK || rest != "" {
			t.Fatalf("M5: %v: %d, %d", asks, e, f)
		}
		kept, _ := cache.New(1000)
		replies, _ := plan.Run(tree, kept, got.Asks)
		s, e = message.EncodeReply(api.AskGroup, api.Reply{Replies: replies})
		back, rest, f := message.DecodeReply(api.AskGroup, s)
		if e != api.OK || f != api.OK || rest != "" {
			t.Fatalf("M5: %v: the replies: %d, %d", asks, e, f)
		}
		want, _ := plan.Run(tree, kept, asks)
		if !slices.EqualFunc(back.Replies, want, sameReply) {
			t.Errorf("M5: %v: the replies are not what they were", asks)
		}
	}
}
