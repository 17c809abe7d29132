package store

import (
	"strings"

	"scrivener/api"
	"scrivener/device"
)

const (
	heads      = 2 // pages ahead of the data
	letters    = "SL"
	mostNumber = 1 << 62
	lengthSize = 2 // bytes of an entry's length
)

// head is what a head page tells.
type head struct {
	number int
	count  int // of entries
	taken  int // bytes of data, by these
}

// page is the one way in which a head stands as bytes.
func (h head) page() string {
	number := bytesOf(h.number, 8)
	front := number + letters + bytesOf(h.count, 4) + bytesOf(h.taken, 4)
	return front + strings.Repeat("\x00", api.PageSize-len(front)-len(number)) + number
}

// headOf is the head that a page tells, if it has the form of those that stand on that page.
func headOf(text string, page int) (head, bool) {
	h := head{number: numberOf(text[:8]), count: numberOf(text[10:14]), taken: numberOf(text[14:18])}
	fits := h.number >= 1 && h.number <= mostNumber && h.number%heads == page
	return h, fits && h.page() == text
}

// bytesOf is a number as so many bytes, the highest first.
func bytesOf(n, bytes int) string {
	b := make([]byte, bytes)
	for i := range b {
		b[bytes-1-i] = byte(n >> (8 * i))
	}
	return string(b)
}

// numberOf takes the highest byte first; a number of 8 bytes that is too great for an int comes out below 0, so that it is still seen to be none.
func numberOf(s string) int {
	n := 0
	for i := range len(s) {
		n = n<<8 | int(s[i])
	}
	return n
}

func roomOf(d *device.Device) int { return (d.Size() - heads) * api.PageSize }

// counting is the head that counts, and its entries; a head of number 0, if none is right.
func counting(d *device.Device) (head, []string) {
	data := dataOf(d)
	var best head
	var entries []string
	for page := range heads {
		text, e := d.Read(page)
		if e != api.OK {
			continue
		}
		h, ok := headOf(text, page)
		if !ok || h.number < best.number {
			continue
		}
		if l, ok := entriesOf(data, h); ok {
			best, entries = h, l
		}
	}
	return best, entries
}

func dataOf(d *device.Device) string {
	var data strings.Builder
	for page := heads; page < d.Size(); page++ {
		text, _ := d.Read(page)
		data.WriteString(text)
	}
	return data.String()
}

// entriesOf is the entries with which some data begins, if there are just as many, in as many bytes, as a head says.
func entriesOf(data string, h head) ([]string, bool) {
	if h.taken > len(data) {
		return nil, false
	}
	var entries []string
	left := data[:h.taken]
	for range h.count {
		entry, rest, ok := entryOf(left)
		if !ok {
			return nil, false
		}
		entries, left = append(entries, entry), rest
	}
	return entries, left == ""
}

// entryOf is the first entry of some data, and what stands behind it.
func entryOf(data string) (string, string, bool) {
	if len(data) < lengthSize {
		return "", "", false
	}
	length, rest := numberOf(data[:lengthSize]), data[lengthSize:]
	if length > api.MaxEntry || length > len(rest) {
		return "", "", false
	}
	return rest[:length], rest[length:], true
}

// textOf is entries as they stand in the data.
func textOf(l []string) string {
	var text strings.Builder
	for _, entry := range l {
		text.WriteString(bytesOf(len(entry), lengthSize))
		text.WriteString(entry)
	}
	return text.String()
}

// layData lets bytes last, from a place of the data on. What stands ahead of them in their page is written again as it is, so that no tear of it harms the entries that are there.
func layData(d *device.Device, at int, text string) api.Errno {
	for text != "" {
		page, from := heads+at/api.PageSize, at%api.PageSize
		old, e := d.Read(page)
		if e != api.OK {
			return e
		}
		data := make([]byte, api.PageSize)
		copy(data, old[:from])
		n := copy(data[from:], text)
		if e := d.Write(page, string(data)); e != api.OK {
			return e
		}
		at, text = at+n, text[n:]
	}
	return d.Flush()
}

// layHead lets a head last; the other one stays, so that one of them is right wherever the device dies.
func layHead(d *device.Device, h head) api.Errno {
	if e := d.Write(h.number%heads, h.page()); e != api.OK {
		return e
	}
	return d.Flush()
}
