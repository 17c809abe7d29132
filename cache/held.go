package cache

import (
	"strings"

	"scrivener/api"
)

// mostPins is how often a value may be pinned.
const mostPins = 65535

// held is a value that is there.
type held struct {
	key, value string
	pins       int
}

// counts tells how many bytes of the budget it takes.
func (h held) counts() int { return len(h.key) + len(h.value) }

// pinned tells how many of these no other value can have.
func (h held) pinned() int {
	if h.pins == 0 {
		return 0
	}
	return h.counts()
}

// orNone is the cache; where there is none, one that has no room even for what counts nothing: New gives none beside an error, and no call on that may panic.
func (c *Cache) orNone() *Cache {
	if c == nil {
		return &Cache{budget: -1}
	}
	return c
}

// come lets a value be there, as the one used last.
func (c *Cache) come(h held) {
	// Copies, since pieces of longer texts would keep all of those, beyond the budget.
	h.key, h.value = strings.Clone(h.key), strings.Clone(h.value)
	p := &place[held]{thing: h}
	c.order.lay(p)
	c.table.lay(h.key, p)
	c.tally.Count++
	c.tally.Bytes += h.counts()
	c.tally.Pinned += h.pinned()
}

// leave lets a value be there no more.
func (c *Cache) leave(p *place[held]) {
	c.order.take(p)
	c.table.take(p.thing.key)
	c.tally.Count--
	c.tally.Bytes -= p.thing.counts()
	c.tally.Pinned -= p.thing.pinned()
}

// makeRoom puts values out until so many bytes are free. They are, at the latest, when the pinned ones alone are there: Put has seen to that.
func (c *Cache) makeRoom(bytes int) {
	p := c.order.oldest
	for p != nil && c.tally.Bytes+bytes > c.budget {
		next := p.newer
		if p.thing.pins == 0 {
			c.leave(p)
			c.tally.Out++
		}
		p = next
	}
}

// repin lets a value have so many pins more.
func (c *Cache) repin(key string, by int) api.Errno {
	p, there := c.table.find(key)
	if !there {
		return api.ErrCacheNone
	}
	pins := p.thing.pins + by
	if pins < 0 || pins > mostPins {
		return api.ErrCachePins
	}
	c.tally.Pinned -= p.thing.pinned()
	p.thing.pins = pins
	c.tally.Pinned += p.thing.pinned()
	return api.OK
}
