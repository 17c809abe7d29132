package message

import "scrivener/api"

const (
	firstAsk = api.AskRoot // of the kinds of which a group's asks are
	lastAsk  = api.AskChain
)

// asking is a request on its way: of the one that is handed in, what has come across so far.
type asking struct {
	by       carrier
	from, to api.Request
}

// payload takes it across, if it is of one of these kinds.
func (x *asking) payload(first, last int) {
	kind, ok := x.by.mark(x.from.Kind, first, last)
	if !ok {
		return
	}
	x.to.Kind = kind
	for _, field := range requestFields(kind) {
		field(x)
	}
}

// requestFields are those of a kind, in their order.
func requestFields(kind int) []func(*asking) {
	table := [...][]func(*asking){
		api.AskAppend:      {(*asking).entries},
		api.AskHead:        {},
		api.AskRoot:        {(*asking).size},
		api.AskInclusion:   {(*asking).a, (*asking).size},
		api.AskConsistency: {(*asking).a, (*asking).size},
		api.AskBatch:       {(*asking).size, (*asking).indices},
		api.AskChain:       {(*asking).heads},
		api.AskEntries:     {(*asking).a, (*asking).b, (*asking).size},
		api.AskOpen:        {(*asking).a, (*asking).b, (*asking).size},
		api.AskPull:        {(*asking).a},
		api.AskClose:       {(*asking).a},
		api.AskGroup:       {(*asking).asks},
	}
	return table[kind]
}

func (x *asking) a()       { x.to.A = x.by.size(x.from.A) }
func (x *asking) b()       { x.to.B = x.by.size(x.from.B) }
func (x *asking) size()    { x.to.Size = x.by.size(x.from.Size) }
func (x *asking) indices() { x.to.List = x.by.sizes(x.from.List, api.MaxIndices) }
func (x *asking) heads()   { x.to.List = x.by.sizes(x.from.List, api.MaxHeads) }
func (x *asking) asks()    { x.to.Asks = x.by.asks(x.from.Asks) }

func (x *asking) entries() {
	x.to.Entries = x.by.texts(x.from.Entries, 1, api.MaxAppend, longestAsked)
}

// whole tells whether all that stands in the request has come across: nothing does in a field that its kind has not. (A list comes across as a whole, or not at all.)
func (x *asking) whole() bool {
	return x.from.Kind == x.to.Kind && x.from.A == x.to.A && x.from.B == x.to.B && x.from.Size == x.to.Size &&
		len(x.from.List) == len(x.to.List) && len(x.from.Entries) == len(x.to.Entries) && len(x.from.Asks) == len(x.to.Asks)
}
