package message

import (
	"scrivener/api"
	"scrivener/codec"
)

// taking is the carrier out of bytes.
type taking struct {
	from  *codec.Reader
	wrong bool // whether something was read that may not be, by what layer 2 does not know
}

// request takes a request's payload, if it is of one of these kinds.
func (t *taking) request(first, last int) api.Request {
	x := asking{by: t}
	x.payload(first, last)
	return x.to
}

// reply takes the payload of a reply to a kind.
func (t *taking) reply(kind int) api.Reply {
	x := telling{by: t}
	x.payload(kind)
	return x.to
}

// whole tells whether all bytes were taken, and nothing was wrong with them.
func (t *taking) whole() bool {
	e, _ := t.from.Done()
	return e == api.OK && !t.wrong
}

// finds keeps in mind that something was read that may not be.
func (t *taking) finds(ok bool) { t.wrong = t.wrong || !ok }

func (t *taking) mark(_, least, most int) (int, bool) {
	n := t.from.Byte()
	ok := within(n, least, most)
	t.finds(ok)
	return n, ok
}

func (t *taking) size(int) int {
	n := t.from.Num()
	t.finds(isSize(n))
	return n
}

func (t *taking) sizes(_ []int, many int) []int {
	l := t.from.Rising(many)
	t.finds(areSizes(l, many))
	return l
}

func (t *taking) texts(_ []string, least, many, most int) []string {
	l := t.from.Texts(many, most)
	t.finds(len(l) >= least)
	return l
}

func (t *taking) hashes([]string) []string { return t.from.Hashes(mostHashes) }

func (t *taking) root(string) string { return t.from.Raw(api.HashSize) }

func (t *taking) asks([]api.Request) []api.Request {
	var l []api.Request
	for range t.count() {
		l = append(l, t.request(firstAsk, lastAsk))
	}
	return l
}

func (t *taking) parts([]api.Reply) []api.Reply {
	var l []api.Reply
	for range t.count() {
		x := telling{by: t}
		x.part()
		l = append(l, x.to)
	}
	return l
}

// count is how many asks or parts come.
func (t *taking) count() int {
	n := t.from.Num()
	if !within(n, 1, api.MaxAsks) {
		t.finds(false)
		return 0
	}
	return n
}
