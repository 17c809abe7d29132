package message_test

import (
	"encoding/binary"
	"fmt"
	"math/rand"
	"reflect"
	"slices"
	"strings"

	"scrivener/api"
)

// The model takes the words as they stand: the chapter's tables are kept as letters, one a field; what is laid down is struck out, and nothing may be left; what is read is tried byte by byte.

// requestFields are, of each kind: a, b, s the SIZEs A, B, Size; i INDICES; h HEADS; e ENTRIES; g asks.
var requestFields = []string{1: "e", 2: "", 3: "s", 4: "as", 5: "as", 6: "si", 7: "h", 8: "abs", 9: "abs", 10: "a", 11: "a", 12: "g"}

// replyFields are, of each kind: s, a the SIZEs Size, A; o the byte B; r ROOT; p HASHES; t TOLD; g parts.
var replyFields = []string{0: "", 1: "sar", 2: "sr", 3: "r", 4: "p", 5: "p", 6: "p", 7: "p", 8: "tp", 9: "a", 10: "aotp", 11: "", 12: "g"}

const greatest = 1 << 40

// digits are those of a number: the library's have the same form.
func digits(n int) string { return string(binary.AppendUvarint(nil, uint64(n))) }

func framed(payload string) string { return digits(len(payload)) + payload }

// refused is given up with, where something may not be.
type refused struct{}

func demand(ok bool) {
	if !ok {
		panic(refused{})
	}
}

// taken is what f tells, and whether it was not given up.
func taken[T any](f func() T) (answer T, ok bool) {
	defer func() {
		if r := recover(); r != nil {
			if _, is := r.(refused); !is {
				panic(r)
			}
			var none T
			answer, ok = none, false
		}
	}()
	return f(), true
}

// laySize is the bytes of a SIZE, which is struck out.
func laySize(n *int) string {
	demand(*n >= 0 && *n <= greatest)
	s := digits(*n)
	*n = 0
	return s
}

func layRising(l *[]int, many int) string {
	demand(len(*l) >= 1 && len(*l) <= many)
	s := digits(len(*l))
	for i, n := range *l {
		demand(n >= 0 && n <= greatest)
		if i > 0 {
			demand(n > (*l)[i-1])
			n -= (*l)[i-1] + 1
		}
		s += digits(n)
	}
	*l = nil
	return s
}

func layTexts(l *[]string, least, many, most int) string {
	demand(len(*l) >= least && len(*l) <= many)
	var b strings.Builder
	b.WriteString(digits(len(*l)))
	for _, text := range *l {
		demand(len(text) <= most)
		b.WriteString(digits(len(text)) + text)
	}
	*l = nil
	return b.String()
}

func layHashes(l *[]string) string {
	demand(len(*l) <= 32768)
	for _, hash := range *l {
		demand(len(hash) == 32)
	}
	s := digits(len(*l)) + strings.Join(*l, "")
	*l = nil
	return s
}

func layRoot(root *string) string {
	demand(len(*root) == 32)
	s := *root
	*root = ""
	return s
}

// layRequest is a request's payload, if its kind is one of these.
func layRequest(r api.Request, first, last int) string {
	demand(r.Kind >= first && r.Kind <= last)
	s := string([]byte{byte(r.Kind)})
	for _, field := range requestFields[r.Kind] {
		switch field {
		case 'a':
			s += laySize(&r.A)
		case 'b':
			s += laySize(&r.B)
		case 's':
			s += laySize(&r.Size)
		case 'i':
			s += layRising(&r.List, 256)
		case 'h':
			s += layRising(&r.List, 64)
		case 'e':
			s += layTexts(&r.Entries, 1, 32, 4096)
		case 'g':
			demand(len(r.Asks) >= 1 && len(r.Asks) <= 64)
			s += digits(len(r.Asks))
			for _, ask := range r.Asks {
				s += layRequest(ask, 3, 7)
			}
			r.Asks = nil
		}
	}
	r.Kind = 0
	demand(sameRequest(r, api.Request{}))
	return s
}

// layReply is the payload of a reply to a kind.
func layReply(kind int, r api.Reply) string {
	demand(r.Status >= 0 && r.Status <= 8 && (kind != 0 || r.Status != 0))
	s := string([]byte{byte(kind), byte(r.Status)})
	if r.Status == api.Done {
		s += layFields(replyFields[kind], &r)
	}
	r.Status = 0
	demand(sameReply(r, api.Reply{}))
	return s
}

func layPart(r api.Reply) string {
	demand(r.Status >= 0 && r.Status <= 8)
	s := string([]byte{byte(r.Status)})
	switch {
	case r.Status != api.Done:
	case r.Root != "":
		s += "\x01" + layFields("r", &r)
	default:
		s += "\x00" + layFields("p", &r)
	}
	r.Status = 0
	demand(sameReply(r, api.Reply{}))
	return s
}

func layFields(fields string, r *api.Reply) string {
	s := ""
	for _, field := range fields {
		switch field {
		case 's':
			s += laySize(&r.Size)
		case 'a':
			s += laySize(&r.A)
		case 'o':
			demand(r.B == 0 || r.B == 1)
			s += string([]byte{byte(r.B)})
			r.B = 0
		case 'r':
			s += layRoot(&r.Root)
		case 'p':
			s += layHashes(&r.Hashes)
		case 't':
			s += layTexts(&r.Entries, 0, 4096, 1000)
		case 'g':
			demand(len(r.Replies) >= 1 && len(r.Replies) <= 64)
			s += digits(len(r.Replies))
			for _, part := range r.Replies {
				s += layPart(part)
			}
			r.Replies = nil
		}
	}
	return s
}

// slowEncode is what M1 says.
func slowEncode(r api.Request) (string, api.Errno) {
	if r.Kind < 1 || r.Kind > 12 {
		return "", api.ErrMessageKind
	}
	s, ok := taken(func() string { return layRequest(r, 1, 12) })
	if !ok {
		return "", api.ErrMessageField
	}
	return framed(s), api.OK
}

// slowEncodeReply is what M3 says.
func slowEncodeReply(kind int, r api.Reply) (string, api.Errno) {
	if kind < 0 || kind > 12 {
		return "", api.ErrMessageKind
	}
	s, ok := taken(func() string { return layReply(kind, r) })
	switch {
	case !ok:
		return "", api.ErrMessageField
	case len(s) > 1048576:
		return "", api.ErrMessageLong
	}
	return framed(s), api.OK
}

// eaten are bytes that are taken off the front.
type eaten struct{ s string }

func (x *eaten) raw(n int) string {
	demand(n <= len(x.s))
	s := x.s[:n]
	x.s = x.s[n:]
	return s
}

func (x *eaten) byte() int { return int(x.raw(1)[0]) }

// num is a number of at most so much: some of the first bytes are its digits.
func (x *eaten) num(most int) int {
	n, k := binary.Uvarint([]byte(x.s))
	demand(k > 0 && n <= uint64(most) && digits(int(n)) == x.s[:k])
	x.raw(k)
	return int(n)
}

func (x *eaten) rising(many int) (l []int) {
	count := x.num(many)
	demand(count > 0)
	next := 0
	for range count {
		next += x.num(greatest)
		demand(next <= greatest)
		l = append(l, next)
		next++
	}
	return l
}

func (x *eaten) texts(least, many, most int) (l []string) {
	count := x.num(many)
	demand(count >= least)
	for range count {
		l = append(l, x.raw(x.num(most)))
	}
	return l
}

func (x *eaten) hashes() (l []string) {
	for range x.num(32768) {
		l = append(l, x.raw(32))
	}
	return l
}

func (x *eaten) request(first, last int) (r api.Request) {
	r.Kind = x.byte()
	demand(r.Kind >= first && r.Kind <= last)
	for _, field := range requestFields[r.Kind] {
		switch field {
		case 'a':
			r.A = x.num(greatest)
		case 'b':
			r.B = x.num(greatest)
		case 's':
			r.Size = x.num(greatest)
		case 'i':
			r.List = x.rising(256)
		case 'h':
			r.List = x.rising(64)
		case 'e':
			r.Entries = x.texts(1, 32, 4096)
		case 'g':
			count := x.num(64)
			demand(count > 0)
			for range count {
				r.Asks = append(r.Asks, x.request(3, 7))
			}
		}
	}
	return r
}

func (x *eaten) reply(kind int) (r api.Reply) {
	demand(x.byte() == kind)
	r.Status = api.Status(x.byte())
	demand(r.Status <= 8 && (kind != 0 || r.Status != 0))
	if r.Status == api.Done {
		x.fields(replyFields[kind], &r)
	}
	return r
}

func (x *eaten) part() (r api.Reply) {
	r.Status = api.Status(x.byte())
	demand(r.Status <= 8)
	if r.Status == api.Done {
		form := x.byte()
		demand(form < 2)
		x.fields("pr"[form:form+1], &r)
	}
	return r
}

func (x *eaten) fields(fields string, r *api.Reply) {
	for _, field := range fields {
		switch field {
		case 's':
			r.Size = x.num(greatest)
		case 'a':
			r.A = x.num(greatest)
		case 'o':
			r.B = x.byte()
			demand(r.B < 2)
		case 'r':
			r.Root = x.raw(32)
		case 'p':
			r.Hashes = x.hashes()
		case 't':
			r.Entries = x.texts(0, 4096, 1000)
		case 'g':
			count := x.num(64)
			demand(count > 0)
			for range count {
				r.Replies = append(r.Replies, x.part())
			}
		}
	}
}

// slowUnframe is what M2 says of frames, by layer 2's words.
func slowUnframe(s string) (payload, rest string, e api.Errno) {
	n, k := binary.Uvarint([]byte(s))
	for i := range min(9, len(s)) {
		if s[i] < 128 {
			break
		}
		if i == 8 {
			return "", "", api.ErrMessageForm
		}
	}
	switch {
	case k <= 0:
		return "", "", api.ErrMessageShort
	case digits(int(n)) != s[:k] || n > 1<<62:
		return "", "", api.ErrMessageForm
	case n > 1048576:
		return "", "", api.ErrMessageLong
	case int(n) > len(s)-k:
		return "", "", api.ErrMessageShort
	}
	return s[k : k+int(n)], s[k+int(n):], api.OK
}

// slowDecode is what M2 says.
func slowDecode(s string) (api.Request, string, api.Errno) {
	return slowRead(s, func(x *eaten) api.Request { return x.request(1, 12) })
}

// slowDecodeReply is what M4 says.
func slowDecodeReply(kind int, s string) (api.Reply, string, api.Errno) {
	if kind < 0 || kind > 12 {
		return api.Reply{}, "", api.ErrMessageKind
	}
	return slowRead(s, func(x *eaten) api.Reply { return x.reply(kind) })
}

func slowRead[T any](s string, read func(*eaten) T) (T, string, api.Errno) {
	var none T
	payload, rest, e := slowUnframe(s)
	if e != api.OK {
		return none, "", e
	}
	x := &eaten{payload}
	r, ok := taken(func() T { return read(x) })
	if !ok || x.s != "" {
		return none, "", api.ErrMessageForm
	}
	return r, rest, api.OK
}

// sameRequest tells whether two are the same; a list without elements may be nil or not.
func sameRequest(a, b api.Request) bool {
	same := slices.Equal(a.List, b.List) && slices.Equal(a.Entries, b.Entries) && slices.EqualFunc(a.Asks, b.Asks, sameRequest)
	a.List, a.Entries, a.Asks, b.List, b.Entries, b.Asks = nil, nil, nil, nil, nil, nil
	return same && reflect.DeepEqual(a, b)
}

func sameReply(a, b api.Reply) bool {
	same := slices.Equal(a.Hashes, b.Hashes) && slices.Equal(a.Entries, b.Entries) && slices.EqualFunc(a.Replies, b.Replies, sameReply)
	a.Hashes, a.Entries, a.Replies, b.Hashes, b.Entries, b.Replies = nil, nil, nil, nil, nil, nil
	return same && reflect.DeepEqual(a, b)
}

// short is a text of a message that is not too long to be looked at; texts are told by their bytes' numbers.
func short(r any) string {
	s := fmt.Sprintf("%x", r)
	if len(s) > 300 {
		return s[:300] + ".."
	}
	return s
}

func someText(r *rand.Rand, n int) string {
	b := make([]byte, n)
	r.Read(b)
	return string(b)
}

// someSize is small, or of any length up to the greatest, or near that.
func someSize(r *rand.Rand) int {
	switch r.Intn(4) {
	case 0:
		return r.Intn(4)
	case 1:
		return greatest - r.Intn(3)
	}
	return r.Intn(greatest+1) >> r.Intn(40)
}

func someSizes(r *rand.Rand, many int) []int {
	l := make([]int, 1+r.Intn(many))
	for i := range l {
		l[i] = someSize(r)
	}
	slices.Sort(l)
	return slices.Compact(l)
}

func someTexts(r *rand.Rand, least, many, most int) []string {
	l := make([]string, least+r.Intn(many-least+1))
	for i := range l {
		l[i] = someText(r, r.Intn(most+1)>>r.Intn(12))
	}
	return l
}

func someHashes(r *rand.Rand, many int) []string {
	l := make([]string, r.Intn(many+1))
	for i := range l {
		l[i] = someText(r, 32)
	}
	return l
}

// someRequest is one of these kinds that may be, with lists of up to so many.
func someRequest(r *rand.Rand, first, last, many int) (x api.Request) {
	x.Kind = first + r.Intn(last-first+1)
	for _, field := range requestFields[x.Kind] {
		switch field {
		case 'a':
			x.A = someSize(r)
		case 'b':
			x.B = someSize(r)
		case 's':
			x.Size = someSize(r)
		case 'i':
			x.List = someSizes(r, min(many, 256))
		case 'h':
			x.List = someSizes(r, min(many, 64))
		case 'e':
			x.Entries = someTexts(r, 1, min(many, 32), 4096)
		case 'g':
			for range 1 + r.Intn(min(many, 64)) {
				x.Asks = append(x.Asks, someRequest(r, 3, 7, many))
			}
		}
	}
	return x
}

// someReply is one to a kind that may be, with lists of up to so many.
func someReply(r *rand.Rand, kind, many int) (x api.Reply) {
	if kind == 0 || r.Intn(4) == 0 {
		return api.Reply{Status: api.Status(1 + r.Intn(8))}
	}
	for _, field := range replyFields[kind] {
		switch field {
		case 's':
			x.Size = someSize(r)
		case 'a':
			x.A = someSize(r)
		case 'o':
			x.B = r.Intn(2)
		case 'r':
			x.Root = someText(r, 32)
		case 'p':
			x.Hashes = someHashes(r, many)
		case 't':
			x.Entries = someTexts(r, 0, many, 1000)
		case 'g':
			for range 1 + r.Intn(min(many, 64)) {
				x.Replies = append(x.Replies, someReply(r, []int{0, 3, 4}[r.Intn(3)], many))
			}
		}
	}
	return x
}
