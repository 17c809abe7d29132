package client

import (
	"strings"

	"scrivener/api"
)

// root is that of a size: a struct of one text.
type root struct{ bytes string }

// roots are those of some sizes, of each one at most: it is trusted, or has only been heard. A draft lies over others: what it does not say itself, they say.
type roots struct {
	under          *roots
	trusted, heard map[int]root
	greatest       int // of the sizes that are trusted
}

func newRoots() roots { return roots{trusted: map[int]root{}, heard: map[int]root{}} }

// draft are roots that say what these do, until they are told more.
func (k *roots) draft() roots {
	d := newRoots()
	d.under, d.greatest = k, k.greatest
	return d
}

// settle tells the roots under a draft what it was told.
func (k *roots) settle() {
	for size, r := range k.trusted {
		k.under.trust(api.Head{Size: size, Root: r.bytes})
	}
	for size, r := range k.heard {
		k.under.hear(api.Head{Size: size, Root: r.bytes})
	}
}

func (k *roots) trust(heads ...api.Head) {
	for _, h := range heads {
		k.trusted[h.Size] = kept(h)
		delete(k.heard, h.Size)
		k.greatest = max(k.greatest, h.Size)
	}
}

// hear lets a head be heard, unless its size is trusted.
func (k *roots) hear(h api.Head) {
	if !k.trusts(h.Size) {
		k.heard[h.Size] = kept(h)
	}
}

// kept is a head's root. It is a copy: a piece would keep the whole frame in which it came.
func kept(h api.Head) root { return root{strings.Clone(h.Root)} }

// trustsAny tells whether any size is trusted: of a client that New made one always is.
func (k *roots) trustsAny() bool { return len(k.trusted) > 0 }

func (k *roots) trusts(size int) bool {
	_, there := k.trustedAt(size)
	return there
}

func (k *roots) knows(size int) bool {
	_, there := k.knownAt(size)
	return there
}

// joins tells whether a proof between some sizes could make them trusted: all are known, and one is trusted at least.
func (k *roots) joins(sizes ...int) bool {
	some := false
	for _, size := range sizes {
		if !k.knows(size) {
			return false
		}
		some = some || k.trusts(size)
	}
	return some
}

func (k *roots) trustedAt(size int) (string, bool) {
	r, there := k.trusted[size]
	if !there && k.under != nil {
		return k.under.trustedAt(size)
	}
	return r.bytes, there
}

func (k *roots) heardAt(size int) (string, bool) {
	r, there := k.heard[size]
	if !there && k.under != nil {
		return k.under.heardAt(size)
	}
	return r.bytes, there
}

// knownAt asks for trust first: what lies under a draft may have heard what the draft trusts.
func (k *roots) knownAt(size int) (string, bool) {
	if r, there := k.trustedAt(size); there {
		return r, true
	}
	return k.heardAt(size)
}

// trustedHead is the head of a size that is trusted.
func (k *roots) trustedHead(size int) api.Head {
	r, _ := k.trustedAt(size)
	return api.Head{Size: size, Root: r}
}

// knownHeads are the heads of sizes that are known.
func (k *roots) knownHeads(sizes ...int) []api.Head {
	l := make([]api.Head, len(sizes))
	for i, size := range sizes {
		r, _ := k.knownAt(size)
		l[i] = api.Head{Size: size, Root: r}
	}
	return l
}

// denies tells whether a head can't be one of the log's.
func (k *roots) denies(h api.Head) bool {
	r, trusted := k.trustedAt(h.Size)
	return trusted && r != h.Root || isWrongEmpty(h)
}
