package message

import "scrivener/api"

// A part of a reply to a group is, if it is Done, of one of these forms.
const (
	ofHashes = iota
	ofRoot
)

// telling is a reply on its way: of the one that is handed in, what has come across so far.
type telling struct {
	by       carrier
	from, to api.Reply
}

// payload takes it across, as that to a request of a kind.
func (x *telling) payload(kind int) {
	if _, ok := x.by.mark(kind, kind, kind); !ok {
		return
	}
	least := api.Done
	if kind == noRequest {
		least++ // nothing was asked that could be done
	}
	if !x.isDone(least) {
		return
	}
	for _, field := range replyFields(kind) {
		field(x)
	}
}

// part takes it across, as one of the replies to a group's asks.
func (x *telling) part() {
	if !x.isDone(api.Done) {
		return
	}
	switch form, ok := x.by.mark(formOf(x.from), ofHashes, ofRoot); {
	case ok && form == ofHashes:
		x.hashes()
	case ok && form == ofRoot:
		x.root()
	}
}

// formOf is the form of a part that is handed in: one with a root has no hashes.
func formOf(r api.Reply) int {
	if r.Root != "" {
		return ofRoot
	}
	return ofHashes
}

// isDone takes the Status across, and tells whether fields come behind it.
func (x *telling) isDone(least api.Status) bool {
	status, ok := x.by.mark(int(x.from.Status), int(least), int(api.Doubt))
	x.to.Status = api.Status(status)
	return ok && x.to.Status == api.Done
}

// replyFields are those of a reply that is Done, in their order: what a kind has alone, and what it shares with others.
func replyFields(kind int) []func(*telling) {
	alone := [lastKind + 1][]func(*telling){
		api.AskAppend: {(*telling).size, (*telling).a},
		api.AskHead:   {(*telling).size},
		api.AskOpen:   {(*telling).a},
		api.AskPull:   {(*telling).a, (*telling).over},
		api.AskGroup:  {(*telling).parts},
	}
	row := alone[kind]
	switch kind {
	case api.AskAppend, api.AskHead, api.AskRoot:
		row = append(row, (*telling).root)
	case api.AskEntries, api.AskPull:
		row = append(row, (*telling).entries)
		fallthrough
	case api.AskInclusion, api.AskConsistency, api.AskBatch, api.AskChain:
		row = append(row, (*telling).hashes)
	}
	return row
}

func (x *telling) size()   { x.to.Size = x.by.size(x.from.Size) }
func (x *telling) a()      { x.to.A = x.by.size(x.from.A) }
func (x *telling) over()   { x.to.B, _ = x.by.mark(x.from.B, 0, 1) }
func (x *telling) root()   { x.to.Root = x.by.root(x.from.Root) }
func (x *telling) hashes() { x.to.Hashes = x.by.hashes(x.from.Hashes) }
func (x *telling) parts()  { x.to.Replies = x.by.parts(x.from.Replies) }

func (x *telling) entries() {
	x.to.Entries = x.by.texts(x.from.Entries, 0, api.MaxList, api.MaxEntry)
}

// whole tells whether all that stands in the reply has come across, as a request's does.
func (x *telling) whole() bool {
	return x.from.Status == x.to.Status && x.from.Size == x.to.Size && x.from.A == x.to.A && x.from.B == x.to.B && x.from.Root == x.to.Root &&
		len(x.from.Hashes) == len(x.to.Hashes) && len(x.from.Entries) == len(x.to.Entries) && len(x.from.Replies) == len(x.to.Replies)
}
