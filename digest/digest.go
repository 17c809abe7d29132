// Package digest: SHA-256, leaves and nodes, hex and Base64: see DOC.md, chapter 1.
package digest

import "scrivener/api"

// What stands ahead of a leaf and of a node, so that no entry has the text of a node.
const (
	leafMark = "\x00"
	nodeMark = "\x01"
)

// Hasher takes a text in parts. The zero value has taken nothing.
type Hasher struct {
	state [stateWords]uint32 // behind the last whole block; of no meaning ahead of the first
	rest  [blockSize]byte    // its first taken % blockSize bytes are no whole block yet
	taken int
}

// New makes one of nothing.
func New() *Hasher { return &Hasher{} }

// Write takes a further part.
func (h *Hasher) Write(s string) {
	if h == nil {
		return
	}
	for len(s) > 0 {
		at := h.taken % blockSize
		n := copy(h.rest[at:], s)
		if at+n == blockSize {
			h.state = fold(h.words(), h.rest)
		}
		h.taken += n
		s = s[n:]
	}
}

// Sum is the digest of all parts so far; one may go on.
func (h *Hasher) Sum() string {
	// The filling is written to a copy, for h goes on without it.
	c := h.copied()
	c.Write(filling(c.taken))
	return wordBytes(c.state)
}

// Len tells how many bytes there were.
func (h *Hasher) Len() int {
	if h == nil {
		return 0
	}
	return h.taken
}

// Clone is another one that has taken the same.
func (h *Hasher) Clone() *Hasher {
	c := h.copied()
	return &c
}

// copied is the hasher's value; no hasher at all has taken nothing, so that no call panics.
func (h *Hasher) copied() Hasher {
	if h == nil {
		return Hasher{}
	}
	return *h
}

// words is the state; ahead of the first block the zero value must stand for the start.
func (h *Hasher) words() [stateWords]uint32 {
	if h.taken < blockSize {
		return start
	}
	return h.state
}

// Sum is the digest of some texts, one behind the other.
func Sum(parts ...string) string {
	var h Hasher
	for _, s := range parts {
		h.Write(s)
	}
	return h.Sum()
}

// Empty is the root of no leaves.
func Empty() string { return Sum() }

// Leaf is the hash of an entry.
func Leaf(entry string) string { return Sum(leafMark, entry) }

// Node is the hash of two hashes.
func Node(left, right string) (string, api.Errno) {
	if len(left) != api.HashSize || len(right) != api.HashSize {
		return "", api.ErrDigestSize
	}
	return Sum(nodeMark, left, right), api.OK
}
