package server

import (
	"scrivener/api"
	"scrivener/plan"
	"scrivener/span"
)

// turn is a request of a session, whose turn it is.
type turn struct {
	server  *Server
	session *session
	request api.Request
}

// service is how requests of a kind are served: check gives those up that are not served as things stand; answer serves the others, or gives them up while nothing is changed yet.
type service struct {
	check  func(turn)
	answer func(turn) api.Reply
}

func serviceOf(kind int) service {
	table := [...]service{
		api.AskAppend:      {check: turn.hasRoom, answer: turn.take},
		api.AskHead:        {check: turn.needsNothing, answer: turn.head},
		api.AskRoot:        {check: turn.needsNothing, answer: turn.ask},
		api.AskInclusion:   {check: turn.needsNothing, answer: turn.ask},
		api.AskConsistency: {check: turn.needsNothing, answer: turn.ask},
		api.AskBatch:       {check: turn.needsNothing, answer: turn.ask},
		api.AskChain:       {check: turn.needsNothing, answer: turn.ask},
		api.AskEntries:     {check: turn.hasRun, answer: turn.entries},
		api.AskOpen:        {check: turn.hasRun, answer: turn.open},
		api.AskPull:        {check: turn.hasStream, answer: turn.pull},
		api.AskClose:       {check: turn.hasStream, answer: turn.leave},
		api.AskGroup:       {check: turn.needsNothing, answer: turn.group},
	}
	return table[kind]
}

// refusal is the status by which a request is given up.
type refusal api.Status

func giveUpIf(so bool, why api.Status) {
	if so {
		panic(refusal(why))
	}
}

// reply is what the request is answered. No other panic can come than a refusal, for the layers below have none.
func (t turn) reply() (r api.Reply) {
	defer func() {
		if why, ok := recover().(refusal); ok {
			r = api.Reply{Status: api.Status(why)}
		}
	}()
	giveUpIf(t.server.store.Doubt(), api.Doubt)
	kind := serviceOf(t.request.Kind)
	kind.check(t)
	return kind.answer(t)
}

func (t turn) needsNothing() {}

// hasRoom holds the entries to the limits. (The store has others, which it tells itself.)
func (t turn) hasRoom() {
	for _, entry := range t.request.Entries {
		giveUpIf(len(entry) > api.MaxEntry, api.TooLong)
	}
	giveUpIf(t.server.store.Size()+len(t.request.Entries) > t.server.limits.Capacity, api.Full)
}

// hasRun asks for the log to have the size, and the run in it. (There is none in a size below 1.)
func (t turn) hasRun() {
	r := t.request
	giveUpIf(r.Size > t.server.store.Size(), api.NotThere)
	giveUpIf(r.A >= r.B || r.B > r.Size, api.NotThere)
}

func (t turn) hasStream() {
	_, there := t.session.streams.find(t.request.A)
	giveUpIf(!there, api.NoStream)
}

func (t turn) take() api.Reply {
	first, e := t.server.store.Append(t.request.Entries)
	giveUpIf(e == api.ErrStoreFull, api.Full)
	giveUpIf(e != api.OK, api.Doubt)
	r := t.head()
	r.A = first
	return r
}

func (t turn) head() api.Reply {
	size := t.server.store.Size()
	// No error can come: it is the tree's own size.
	root, _ := t.server.store.Tree().Root(size)
	return api.Reply{Size: size, Root: root}
}

func (t turn) ask() api.Reply { return t.run([]api.Request{t.request})[0] }

func (t turn) group() api.Reply { return api.Reply{Replies: t.run(t.request.Asks)} }

// run is what layer 16 says. No error can come: layer 17 reads no asks but those that have their form, and no more than there may be.
func (t turn) run(asks []api.Request) []api.Reply {
	replies, _ := plan.Run(t.server.store.Tree(), t.server.cache, asks)
	return replies
}

func (t turn) span() api.Span { return api.Span{Begin: t.request.A, End: t.request.B} }

func (t turn) entries() api.Reply {
	x := t.span()
	giveUpIf(x.End-x.Begin > t.server.limits.Entries, api.TooLong)
	// No error can come: the log has the run, and is not in doubt.
	entries, _ := t.server.store.Entries(x)
	return api.Reply{Entries: entries, Hashes: t.beside(t.request.Size, x)}
}

// beside are the hashes that prove a run. No error can come: the log has it.
func (t turn) beside(size int, x api.Span) []string {
	run, _ := span.Prove(t.server.store.Tree(), size, x)
	return run.Hashes
}

func (t turn) open() api.Reply {
	giveUpIf(t.session.streams.full(), api.TooMany)
	// No error can come: the log has the run, and Chunk is less than a stream's budget may be.
	s, _ := span.Open(t.server.store, t.request.Size, t.span(), t.server.limits.Chunk)
	return api.Reply{A: t.session.streams.add(s)}
}

func (t turn) pull() api.Reply {
	s, _ := t.session.streams.find(t.request.A)
	// No error can come: the store is not in doubt, and a stream that is over is there no more.
	entries, first, over, _ := s.Next()
	r := api.Reply{A: first, Entries: entries}
	r.Hashes = t.beside(s.Size(), api.Span{Begin: first, End: first + len(entries)})
	if over {
		r.B = 1
		t.leave()
	}
	return r
}

// leave lets the stream be there no more.
func (t turn) leave() api.Reply {
	t.session.streams.drop(t.request.A)
	return api.Reply{}
}
