package signer

import (
	"strings"

	"scrivener/api"
	"scrivener/codec"
	"scrivener/device"
)

const (
	places     = 2 // pages on which records stand, by turns
	letters    = "SG"
	numberSize = 2
	seedSize   = 32
	recordSize = len(letters) + 1 + numberSize + seedSize
)

// record is what is laid down of a signer.
type record struct {
	height, number int
	seed           string
}

// left is how many keys are not spent.
func (r record) left() int { return 1<<r.height - r.number }

// page is the one way in which a record stands as bytes: whole at both ends, so that a tear is seen.
func (r record) page() string {
	w := codec.NewWriter()
	w.Raw(letters)
	w.Byte(r.height)
	writeNumber(w, r.number)
	w.Raw(r.seed)
	// No error can come: the height is a byte, and so is each half of the number.
	once, _ := w.Done()
	return once + noughts(api.PageSize-2*recordSize) + once
}

// write is its page, on the place where the record ahead of it does not stand: so a tear never harms that.
func (r record) write() api.Write { return api.Write{Page: r.number % places, Data: r.page()} }

// recordOf is the record whose page a text is, if it is one's that belongs there.
func recordOf(text string, page int) (record, bool) {
	in := codec.NewReader(text)
	in.Raw(len(letters))
	r := record{height: in.Byte()}
	r.number = readNumber(in)
	// A copy, since a piece of the page would keep all of that.
	r.seed = strings.Clone(in.Raw(seedSize))
	fits := isHeight(r.height) && r.left() >= 0
	return r, fits && r.write() == api.Write{Page: page, Data: text}
}

// standing is the record that stands on a device, if one does.
func standing(d *device.Device) (record, bool) {
	var best record
	found := 0
	for page := range places {
		text, e := d.Read(page)
		r, ok := recordOf(text, page)
		switch {
		case e != api.OK || !ok:
			continue
		case found > 0 && (r.seed != best.seed || r.height != best.height):
			return record{}, false
		}
		if found == 0 || r.number > best.number {
			best = r
		}
		found++
	}
	return best, found > 0
}

// lay lets some pages last.
func lay(d *device.Device, pages ...api.Write) api.Errno {
	for _, w := range pages {
		if e := d.Write(w.Page, w.Data); e != api.OK {
			return e
		}
	}
	return d.Flush()
}

func isHeight(n int) bool { return n >= 0 && n <= api.MaxSigner }

func noughts(n int) string { return strings.Repeat("\x00", n) }

// writeNumber lays a number down, the high byte first.
func writeNumber(w *codec.Writer, n int) {
	w.Byte(n / 256)
	w.Byte(n % 256)
}

// readNumber takes such a number.
func readNumber(r *codec.Reader) int {
	high := r.Byte()
	return 256*high + r.Byte()
}
