package message

import (
	"scrivener/api"
	"scrivener/codec"
)

// laying is the carrier into bytes.
type laying struct {
	to    *codec.Writer
	wrong bool // whether a field may not be what it is, by what layer 2 does not know
}

// request lays a request's payload down, if it is of one of these kinds.
func (w *laying) request(r api.Request, first, last int) {
	x := asking{by: w, from: r}
	x.payload(first, last)
	w.takes(x.whole())
}

// reply lays the payload of a reply to a kind down.
func (w *laying) reply(kind int, r api.Reply) {
	x := telling{by: w, from: r}
	x.payload(kind)
	w.takes(x.whole())
}

// frame is the frame of all that was laid down.
func (w *laying) frame() (string, api.Errno) {
	payload, e := w.to.Done()
	if e != api.OK || w.wrong {
		return "", api.ErrMessageField
	}
	s, e := codec.Frame(payload)
	if e != api.OK {
		return "", api.ErrMessageLong
	}
	return s, api.OK
}

// takes tells whether what is to be laid down may be, and keeps it in mind if not.
func (w *laying) takes(ok bool) bool {
	w.wrong = w.wrong || !ok
	return ok
}

func (w *laying) mark(n, least, most int) (int, bool) {
	if !w.takes(within(n, least, most)) {
		return 0, false
	}
	w.to.Byte(n)
	return n, true
}

func (w *laying) size(n int) int {
	if w.takes(isSize(n)) {
		w.to.Num(n)
	}
	return n
}

func (w *laying) sizes(l []int, many int) []int {
	if w.takes(areSizes(l, many)) {
		w.to.Rising(l)
	}
	return l
}

func (w *laying) texts(l []string, least, many, most int) []string {
	if w.takes(len(l) >= least) {
		w.to.Texts(l, many, most)
	}
	return l
}

func (w *laying) hashes(l []string) []string {
	w.to.Hashes(l, mostHashes)
	return l
}

func (w *laying) root(s string) string {
	if w.takes(len(s) == api.HashSize) {
		w.to.Raw(s)
	}
	return s
}

func (w *laying) asks(l []api.Request) []api.Request {
	if w.takes(within(len(l), 1, api.MaxAsks)) {
		w.to.Num(len(l))
		for _, r := range l {
			w.request(r, firstAsk, lastAsk)
		}
	}
	return l
}

func (w *laying) parts(l []api.Reply) []api.Reply {
	if w.takes(within(len(l), 1, api.MaxAsks)) {
		w.to.Num(len(l))
		for _, r := range l {
			x := telling{by: w, from: r}
			x.part()
			w.takes(x.whole())
		}
	}
	return l
}
