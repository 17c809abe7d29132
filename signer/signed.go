package signer

import (
	"scrivener/api"
	"scrivener/codec"
	"scrivener/digest"
	"scrivener/verify"
	"scrivener/winternitz"
)

// signed is what a signature tells.
type signed struct {
	index   int
	oneTime string
	path    []string
}

// signedSize is how many bytes a signature has, under a tree of a height.
func signedSize(height int) int { return numberSize + winternitz.Size() + height*api.HashSize }

// text is the one way in which a signature stands as bytes.
func (s signed) text() string {
	w := codec.NewWriter()
	writeNumber(w, s.index)
	w.Raw(s.oneTime)
	for _, hash := range s.path {
		w.Raw(hash)
	}
	// No error can come: each half of the index is a byte.
	text, _ := w.Done()
	return text
}

// signedOf is what a text tells, if it has the form of a signature.
func signedOf(text string) (signed, bool) {
	height := (len(text) - signedSize(0)) / api.HashSize
	if !isHeight(height) || len(text) != signedSize(height) {
		return signed{}, false
	}
	in := codec.NewReader(text)
	s := signed{index: readNumber(in)}
	s.oneTime = in.Raw(winternitz.Size())
	for range height {
		s.path = append(s.path, in.Raw(api.HashSize))
	}
	return s, s.index < 1<<height
}

// root is that to which the path leads from the key under which the one-time signature is one of a text.
func (s signed) root(text string) string {
	// No error can come: the signature has the form of one.
	public, _ := winternitz.Recover(text, s.oneTime)
	root, _ := verify.RootOf(1<<len(s.path), s.index, digest.Leaf(public), s.path)
	return root
}
