package client

import (
	"slices"

	"scrivener/api"
	"scrivener/message"
)

const noRequest = 0 // is the kind of a reply to what was no request

// awaited is what a client has made of a request, so that the reply can be held to it: an ask, or a group of them.
type awaited interface{ kind() int }

// ask is a request that is none of a group, with the leaves that its proofs are to be of. Of the entries nothing is needed but how many there are.
type ask struct {
	request api.Request
	entries int
	leaves  []string
}

type group []ask

func (a ask) kind() int { return a.request.Kind }

func (group) kind() int { return api.AskGroup }

// awaitedOf is what is made of a request that has as many leaves as it must have.
func awaitedOf(r api.Request, leaves []string) awaited {
	if r.Kind != api.AskGroup {
		return askOf(r, leaves)
	}
	g := make(group, len(r.Asks))
	for i, one := range r.Asks {
		n := manyLeaves(one)
		g[i], leaves = askOf(one, leaves[:n]), leaves[n:]
	}
	return g
}

func askOf(r api.Request, leaves []string) ask {
	a := ask{request: r, entries: len(r.Entries), leaves: slices.Clone(leaves)}
	a.request.List, a.request.Entries, a.request.Asks = slices.Clone(r.List), nil, nil
	return a
}

// manyLeaves is how many leaves a request has.
func manyLeaves(r api.Request) int {
	switch r.Kind {
	case api.AskInclusion:
		return 1
	case api.AskBatch:
		return len(r.List)
	case api.AskGroup:
		sum := 0
		for _, one := range r.Asks {
			sum += manyLeaves(one)
		}
		return sum
	}
	return 0
}

// canHold tells whether the reply to a request could be held to what is known as things stand.
func (c *Client) canHold(r api.Request) bool {
	switch r.Kind {
	case api.AskInclusion, api.AskBatch, api.AskEntries, api.AskOpen:
		return c.roots.trusts(r.Size)
	case api.AskConsistency:
		return c.roots.joins(r.A, r.Size)
	case api.AskChain:
		return c.roots.joins(r.List...)
	case api.AskPull, api.AskClose:
		_, there := c.streams[r.A]
		return there
	case api.AskGroup:
		return !slices.ContainsFunc(r.Asks, func(one api.Request) bool { return !c.canHold(one) })
	}
	return true
}

// replyOf is the reply that a frame is, to a request of a kind, if it is Done.
func replyOf(kind int, frame string) (api.Reply, api.Errno) {
	if _, ok := wholeReply(noRequest, frame); ok {
		return api.Reply{}, api.ErrClientStatus
	}
	r, ok := wholeReply(kind, frame)
	switch {
	case !ok:
		return api.Reply{}, api.ErrClientReply
	case isRefused(r) || slices.ContainsFunc(r.Replies, isRefused):
		return api.Reply{}, api.ErrClientStatus
	}
	return r, api.OK
}

// wholeReply reads a reply behind which nothing stands.
func wholeReply(kind int, frame string) (api.Reply, bool) {
	r, rest, e := message.DecodeReply(kind, frame)
	return r, e == api.OK && rest == ""
}

func isRefused(r api.Reply) bool { return r.Status != api.Done }
