package message_test

import (
	"math/rand"
	"slices"
	"strconv"
	"testing"

	"scrivener/api"
	"scrivener/message"
)

// overwrite writes into a list and all its spare room.
func overwrite[E any](l []E, with E) {
	l = l[:cap(l)]
	for i := range l {
		l[i] = with
	}
}

// roomy is a copy of a list with spare room, which is filled.
func roomy[E any](l []E, with E) []E {
	c := slices.Concat(l, slices.Repeat([]E{with}, 5))
	return c[:len(l)]
}

// isRoomy tells whether such a list and its spare room are as they were.
func isRoomy[E any](l, was []E, with E, same func(a, b E) bool) bool {
	all := l[:len(l)+5]
	return slices.EqualFunc(l, was, same) && !slices.ContainsFunc(all[len(l):], func(e E) bool { return !same(e, with) })
}

func same[E comparable](a, b E) bool { return a == b }

var (
	spareRequest = api.Request{Kind: -7}
	spareReply   = api.Reply{Status: -7}
)

// roomyRequest is one with lists of its own, which have spare room.
func roomyRequest(x api.Request) api.Request {
	x.List, x.Entries, x.Asks = roomy(x.List, -7), roomy(x.Entries, "spare"), roomy(x.Asks, spareRequest)
	for i := range x.Asks {
		x.Asks[i] = roomyRequest(x.Asks[i])
	}
	return x
}

func isRoomyRequest(x, was api.Request) bool {
	for i := range x.Asks {
		if !isRoomyRequest(x.Asks[i], was.Asks[i]) {
			return false
		}
	}
	return isRoomy(x.List, was.List, -7, same) && isRoomy(x.Entries, was.Entries, "spare", same) && isRoomy(x.Asks, was.Asks, spareRequest, sameRequest)
}

func roomyReply(x api.Reply) api.Reply {
	x.Hashes, x.Entries, x.Replies = roomy(x.Hashes, "spare"), roomy(x.Entries, "spare"), roomy(x.Replies, spareReply)
	for i := range x.Replies {
		x.Replies[i] = roomyReply(x.Replies[i])
	}
	return x
}

func isRoomyReply(x, was api.Reply) bool {
	for i := range x.Replies {
		if !isRoomyReply(x.Replies[i], was.Replies[i]) {
			return false
		}
	}
	return isRoomy(x.Hashes, was.Hashes, "spare", same) && isRoomy(x.Entries, was.Entries, "spare", same) && isRoomy(x.Replies, was.Replies, spareReply, sameReply)
}

// What is handed in is not written into, nor its spare room, whether it is refused or not.
func TestListsAreNotWritten(t *testing.T) {
	r := rand.New(rand.NewSource(21))
	for range 500 {
		was := someRequest(r, 1, 12, 5)
		if r.Intn(3) == 0 {
			was.Kind = r.Intn(14)
		}
		x := roomyRequest(was)
		message.Encode(x)
		if !isRoomyRequest(x, was) {
			t.Fatalf("R2: %s was written into: %s", short(was), short(x))
		}
		kind := r.Intn(13)
		reply := someReply(r, kind, 5)
		if r.Intn(3) == 0 {
			kind = r.Intn(14)
		}
		y := roomyReply(reply)
		message.EncodeReply(kind, y)
		if !isRoomyReply(y, reply) {
			t.Fatalf("R2: %s was written into: %s", short(reply), short(y))
		}
	}
}

// spoilRequest writes into all lists of one, from within.
func spoilRequest(x api.Request) {
	for _, a := range x.Asks {
		spoilRequest(a)
	}
	overwrite(x.List, -1)
	overwrite(x.Entries, "over")
	overwrite(x.Asks, api.Request{Kind: -1})
}

func spoilReply(x api.Reply) {
	for _, a := range x.Replies {
		spoilReply(a)
	}
	overwrite(x.Hashes, "over")
	overwrite(x.Entries, "over")
	overwrite(x.Replies, api.Reply{Status: -1})
}

// What comes out shares no memory with what came out of another call, nor within itself; nothing of it, or of what was handed in, is kept.
func TestListsAreNew(t *testing.T) {
	r := rand.New(rand.NewSource(22))
	for range 500 {
		was := someRequest(r, 1, 12, 5)
		x := roomyRequest(was)
		s, _ := message.Encode(x)
		one, _, _ := message.Decode(s)
		two, _, _ := message.Decode(s)
		spoilRequest(x)
		for i, a := range two.Asks {
			spoilRequest(a)
			for k := i + 1; k < len(two.Asks); k++ {
				if !sameRequest(two.Asks[k], was.Asks[k]) {
					t.Fatalf("R2: %s: the asks %d and %d share memory", short(was), i, k)
				}
			}
		}
		spoilRequest(two)
		again, _ := message.Encode(one)
		if !sameRequest(one, was) || again != s {
			t.Fatalf("R2: %s: a list is kept, or shared", short(was))
		}
		kind := r.Intn(13)
		reply := someReply(r, kind, 5)
		y := roomyReply(reply)
		s, _ = message.EncodeReply(kind, y)
		first, _, _ := message.DecodeReply(kind, s)
		second, _, _ := message.DecodeReply(kind, s)
		spoilReply(y)
		overwrite(second.Hashes, "over")
		if !slices.Equal(second.Entries, reply.Entries) {
			t.Fatalf("R2: %s: hashes and entries share memory", short(reply))
		}
		for i, a := range second.Replies {
			spoilReply(a)
			for k := i + 1; k < len(second.Replies); k++ {
				if !sameReply(second.Replies[k], reply.Replies[k]) {
					t.Fatalf("R2: %s: the parts %d and %d share memory", short(reply), i, k)
				}
			}
		}
		spoilReply(second)
		again, _ = message.EncodeReply(kind, first)
		if !sameReply(first, reply) || again != s {
			t.Fatalf("R2: %s: a list is kept, or shared", short(reply))
		}
	}
}

// Lists that a kind has not come out as nil.
func TestOtherListsAreNil(t *testing.T) {
	r := rand.New(rand.NewSource(23))
	for range 500 {
		s, _ := message.Encode(someRequest(r, 1, 12, 5))
		x, _, _ := message.Decode(s)
		for i, is := range []bool{x.List == nil, x.Entries == nil, x.Asks == nil} {
			if has := slices.Contains([][]int{{6, 7}, {1}, {12}}[i], x.Kind); is == has {
				t.Fatalf("M2: %s: %v", short(s), x)
			}
		}
		for _, a := range x.Asks {
			if a.Entries != nil || a.Asks != nil || a.Kind < 6 && a.List != nil {
				t.Fatalf("M2: %s: %v", short(s), a)
			}
		}
	}
}

func TestCallsAtOnce(t *testing.T) {
	r := rand.New(rand.NewSource(24))
	var requests []api.Request
	var replies []api.Reply
	for range 200 {
		x := someRequest(r, 1, 12, 5)
		requests, replies = append(requests, x), append(replies, someReply(r, x.Kind, 5))
	}
	t.Run("at once", func(t *testing.T) {
		for i := range 8 {
			t.Run(strconv.Itoa(i), func(t *testing.T) {
				t.Parallel()
				for k, x := range requests {
					isEncode(t, x)
					isEncodeReply(t, x.Kind, replies[k])
				}
			})
		}
	})
}
