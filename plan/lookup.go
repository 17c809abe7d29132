package plan

import (
	"strings"

	"scrivener/api"
	"scrivener/batch"
	"scrivener/cache"
	"scrivener/chain"
	"scrivener/single"
	"scrivener/tile"
)

// lookedUp is what a step answers, out of the cache if that has it.
func lookedUp(t *tile.Tree, c *cache.Cache, step ask) []string {
	k := key(step)
	value, there := c.Get(k)
	if there && isWhole(value, step) {
		return cut(value)
	}
	hashes := workedOut(t, step)
	if !there {
		c.Put(k, strings.Join(hashes, ""))
	}
	return hashes
}

// isWhole tells whether a value has as many bytes as what a step answers. Another one was put there by others; nothing could be made of it.
func isWhole(value string, step ask) bool {
	n, _ := count(step)
	return len(value) == n*api.HashSize
}

// cut are the hashes that stand in a value, one behind the other. They are copies: a piece would keep the whole value, though the cache has put it out.
func cut(value string) []string {
	l := make([]string, len(value)/api.HashSize)
	for i := range l {
		l[i] = strings.Clone(value[i*api.HashSize : (i+1)*api.HashSize])
	}
	return l
}

// workedOut is what a step answers, out of the tree. No error can come: it may be.
func workedOut(t *tile.Tree, step ask) []string {
	var hashes []string
	switch s := step.(type) {
	case root:
		hash, _ := t.Root(s.size)
		hashes = []string{hash}
	case path:
		hashes, _ = single.Inclusion(t, s.size, s.index)
	case proof:
		hashes, _ = single.Consistency(t, s.first, s.second)
	case leaves:
		b, _ := batch.Prove(t, s.size, s.indices)
		hashes = b.Hashes
	case heads:
		c, _ := chain.Prove(t, s)
		hashes = c.Hashes
	}
	return hashes
}
