package plan_test

import (
	"math/rand"
	"slices"
	"testing"

	"scrivener/api"
	"scrivener/batch"
	"scrivener/chain"
	"scrivener/device"
	"scrivener/digest"
	"scrivener/plan"
	"scrivener/recursion"
	"scrivener/single"
	"scrivener/store"
	"scrivener/tile"
	"scrivener/verify"
)

// What follows: L5, and with it P1 and P2 of the whole as far as they speak of asks put together. Nothing here is taken from the model: it is held against layers 3, 4, 7, 11, 12 and 13.

// below is what an ask answers alone, as the layers below tell it.
func below(x *tile.Tree, r api.Request) (api.Reply, api.Errno) {
	switch r.Kind {
	case api.AskRoot:
		root, e := x.Root(r.Size)
		return api.Reply{Root: root}, e
	case api.AskInclusion:
		l, e := single.Inclusion(x, r.Size, r.A)
		return api.Reply{Hashes: l}, e
	case api.AskConsistency:
		l, e := single.Consistency(x, r.A, r.Size)
		return api.Reply{Hashes: l}, e
	case api.AskBatch:
		b, e := batch.Prove(x, r.Size, r.List)
		return api.Reply{Hashes: b.Hashes}, e
	}
	c, e := chain.Prove(x, r.List)
	return api.Reply{Hashes: c.Hashes}, e
}

// asBelow holds replies to it; what the layers below refuse is not there.
func asBelow(t *testing.T, x *tile.Tree, asks []api.Request, replies []api.Reply) {
	t.Helper()
	if len(replies) != len(asks) {
		t.Fatalf("L3: %d replies to %d asks", len(replies), len(asks))
	}
	for i, r := range asks {
		want, e := below(x, r)
		if e != api.OK {
			want = api.Reply{Status: api.NotThere}
		}
		if !sameReply(replies[i], want) {
			t.Errorf("L5: %v, among %s: %x, want %x", r, lines(asks), replies[i], want)
		}
	}
}

// asRecursion holds a reply that is Done to layer 3, and what it proves to layers 4, 12 and 13.
func asRecursion(t *testing.T, l []string, r api.Request, is api.Reply) {
	t.Helper()
	n := r.Size
	if r.Kind == api.AskChain {
		n = r.List[len(r.List)-1]
	}
	l = l[:n]
	root, _ := recursion.Root(l)
	switch r.Kind {
	case api.AskRoot:
		if is.Root != root || len(is.Hashes) != 0 {
			t.Errorf("P1: %v: not the root of layer 3", r)
		}
	case api.AskInclusion:
		want, _ := recursion.Path(l, r.A)
		if !slices.Equal(is.Hashes, want) || verify.Inclusion(n, r.A, l[r.A], is.Hashes, root) != api.OK {
			t.Errorf("P1, P2: %v: not the path of layer 3, or not accepted", r)
		}
	case api.AskConsistency:
		want, _ := recursion.Proof(l, r.A)
		old, _ := recursion.Root(l[:r.A])
		if !slices.Equal(is.Hashes, want) || verify.Consistency(r.A, n, old, root, is.Hashes) != api.OK {
			t.Errorf("P1, P2: %v: not the proof of layer 3, or not accepted", r)
		}
	case api.AskBatch:
		want, _ := recursion.Many(l, r.List)
		var leaves []string
		for _, i := range r.List {
			leaves = append(leaves, l[i])
		}
		if !slices.Equal(is.Hashes, want) || batch.Check(api.Batch{Size: n, Indices: r.List, Hashes: is.Hashes}, leaves, root) != api.OK {
			t.Errorf("P1, P2: %v: not the proof of many of layer 3, or not accepted", r)
		}
	case api.AskChain:
		proofs, e := chain.Expand(api.Chain{Heads: r.List, Hashes: is.Hashes})
		if e != api.OK || len(proofs) != len(r.List)-1 {
			t.Fatalf("P1: %v: no chain: %d", r, e)
		}
		for i, proof := range proofs {
			if want, _ := recursion.Proof(l[:r.List[i+1]], r.List[i]); !slices.Equal(proof, want) {
				t.Errorf("P1: %v: not the proofs of layer 3", r)
			}
		}
	}
}

func TestAsRecursion(t *testing.T) {
	r := rand.New(rand.NewSource(11))
	l := some(300, "leaf")
	for height := 1; height <= 8; height++ {
		x := grown(t, height, l)
		c := empty(t, []int{0, 200, 2000, 1 << 20}[height%4])
		for range 40 {
			asks := group(r, 1+r.Intn(300), 1+r.Intn(30))
			replies, e := plan.Run(x, c, asks)
			if e != api.OK {
				t.Fatalf("L3: %d", e)
			}
			asBelow(t, x, asks, replies)
			for i, ask := range asks {
				asRecursion(t, l, ask, replies[i])
			}
		}
	}
}

// In whatever order, and whatever was asked before: each is answered as if it were alone, with an empty cache.
func TestWhateverIsAskedTogether(t *testing.T) {
	r := rand.New(rand.NewSource(12))
	l := some(120, "leaf")
	x := grown(t, 3, l[:50])
	for n := 50; n <= len(l); n++ {
		c := empty(t, r.Intn(5000))
		asks := group(r, n+2, 1+r.Intn(30))
		var alone []api.Reply
		for _, ask := range asks {
			reply, e := plan.Run(x, empty(t, r.Intn(1000)), []api.Request{ask})
			if e != api.OK || len(reply) != 1 {
				t.Fatalf("L3: %d", e)
			}
			alone = append(alone, reply[0])
		}
		for range 5 {
			order := r.Perm(len(asks))[:1+r.Intn(len(asks))]
			var some []api.Request
			for _, i := range order {
				some = append(some, asks[i])
			}
			replies, e := plan.Run(x, c, some)
			if e != api.OK || len(replies) != len(order) {
				t.Fatalf("L3: %d", e)
			}
			for k, i := range order {
				if !sameReply(replies[k], alone[i]) {
					t.Errorf("L5: %v, among %s: %x, alone %x", asks[i], lines(some), replies[k], alone[i])
				}
			}
		}
		adds(t, x, l[n:min(n+1, len(l))])
	}
}

// As the tree grows: what was there is told again, out of the cache or not; what was not is told when it is there.
func TestAsItGrows(t *testing.T) {
	asks := []api.Request{rootOf(20), leafOf(3, 20), leafOf(9, 20), batchOf(20, 3, 4), pairOf(3, 9), pairOf(9, 20), chainOf(7, 12, 20), batchOf(31, 30), rootOf(31), chainOf(20, 31), pairOf(20, 31), leafOf(3, 7), batchOf(7, 3), rootOf(0)}
	l := some(64, "leaf")
	for _, budget := range budgets {
		x, c := grown(t, 2, nil), empty(t, budget)
		for n := range l {
			replies, e := plan.Run(x, c, asks)
			if e != api.OK {
				t.Fatalf("L3: %d", e)
			}
			asBelow(t, x, asks, replies)
			for i, r := range asks {
				if replies[i].Status == api.Done {
					asRecursion(t, l, r, replies[i])
				}
			}
			adds(t, x, l[n:n+1])
		}
		if found := c.Tally().Found; (found > 0) != (budget >= 40) {
			t.Errorf("L4: with the budget %d: %d found", budget, found)
		}
	}
}

// The budget changes only the tally.
func TestBudgetsAnswerTheSame(t *testing.T) {
	r := rand.New(rand.NewSource(13))
	l := some(100, "leaf")
	x := grown(t, 4, l)
	caches := make([]func([]api.Request) []api.Reply, 0)
	var found []func() int
	for _, budget := range budgets {
		c := empty(t, budget)
		caches = append(caches, func(asks []api.Request) []api.Reply {
			replies, _ := plan.Run(x, c, asks)
			return replies
		})
		found = append(found, func() int { return c.Tally().Found })
	}
	for range 200 {
		asks := group(r, 100, 1+r.Intn(20))
		want := caches[0](asks)
		for _, run := range caches[1:] {
			if !slices.EqualFunc(run(asks), want, sameReply) {
				t.Errorf("L5: %s: another budget, another answer", lines(asks))
			}
		}
	}
	if first, last := found[0](), found[len(found)-1](); first != 0 || last == 0 {
		t.Errorf("L4: found with the least budget %d, with the greatest %d", first, last)
	}
}

// A plan is one: each step has an ask that goes to it, they are made in the order of the first ones, each ask is a part of where it goes, and no step goes beyond its bounds.
func TestPlansAreWhole(t *testing.T) {
	r := rand.New(rand.NewSource(14))
	for range 2000 {
		size := 1 + r.Intn(400)
		asks := group(r, size, 1+r.Intn(64))
		p, e := plan.Make(asks, size)
		if e != api.OK || len(p.Of) != len(asks) {
			t.Fatalf("L1: %s: %d", lines(asks), e)
		}
		next := 0
		for i, k := range p.Of {
			if k > next || k < 0 || k >= len(p.Steps) {
				t.Fatalf("L1: %s: %v", lines(asks), p.Of)
			}
			next = max(next, k+1)
			if !isPart(asks[i], p.Steps[k]) {
				t.Errorf("L1: %v goes to %v", asks[i], p.Steps[k])
			}
		}
		if next != len(p.Steps) {
			t.Errorf("L1: %s: %d steps, and %v", lines(asks), len(p.Steps), p.Of)
		}
		alone, together, _ := plan.Hashes(asks, size)
		if together > alone || together < 0 {
			t.Errorf("L2: %s: %d hashes, %d together", lines(asks), alone, together)
		}
		if s, _ := plan.Saving(asks, size); s < 0 || s > 1 {
			t.Errorf("L2: %s: the saving is %v", lines(asks), s)
		}
		// The steps are asks themselves, and their own plan, but for batches of one size that are more than fit.
		again, e := plan.Make(p.Steps, size)
		if e != api.OK || len(again.Steps) > len(p.Steps) {
			t.Errorf("L1: %s: its steps are no asks: %d", lines(asks), e)
		}
	}
}

// isPart tells whether a step can answer an ask.
func isPart(r, step api.Request) bool {
	if r.Size != step.Size && r.Kind != api.AskConsistency {
		return false
	}
	switch r.Kind {
	case api.AskInclusion:
		return step.Kind == 4 && step.A == r.A || step.Kind == 6 && slices.Contains(step.List, r.A)
	case api.AskBatch:
		if step.Kind == 4 {
			return slices.Equal(r.List, []int{step.A})
		}
		return step.Kind == 6 && !slices.ContainsFunc(r.List, func(i int) bool { return !slices.Contains(step.List, i) })
	case api.AskConsistency:
		return sameRequest(r, step) || step.Kind == 7 && beside(step.List, r.A, r.Size)
	}
	return sameRequest(r, step)
}

// How many hashes there are is what Run answers, and what it puts into a cache.
func TestHashesAreThoseOfRun(t *testing.T) {
	r := rand.New(rand.NewSource(15))
	x := grown(t, 3, some(200, "leaf"))
	for range 200 {
		asks := group(r, 200, 1+r.Intn(40))
		alone, together, e := plan.Hashes(asks, 200)
		c := empty(t, api.MaxBudget)
		replies, f := plan.Run(x, c, asks)
		if e != api.OK || f != api.OK {
			t.Fatalf("L2, L3: %d, %d", e, f)
		}
		for _, reply := range replies {
			alone -= len(reply.Hashes) + len(reply.Root)/32
		}
		bytes := c.Tally().Bytes
		for _, key := range c.Keys() {
			bytes -= len(key)
		}
		if alone != 0 || together*32 != bytes {
			t.Errorf("L2: %s: %d hashes too many, %d together, but %d bytes are kept", lines(asks), alone, together, bytes)
		}
	}
}

// The tree of a log on a device, one that grows and that of the log when it is opened again, with one cache for both.
func TestTreeOfAStore(t *testing.T) {
	disk, _ := device.New(64)
	if e := store.Format(disk); e != api.OK {
		t.Fatalf("layer 10: Format: %d", e)
	}
	log, e := store.Open(disk)
	if e != api.OK {
		t.Fatalf("layer 10: Open: %d", e)
	}
	r := rand.New(rand.NewSource(16))
	c := empty(t, 4000)
	var l []string
	for i := range 40 {
		entries := []string{"entry", "", string([]byte{byte(i)})}[:1+i%3]
		if _, e := log.Append(entries); e != api.OK {
			t.Fatalf("layer 10: Append: %d", e)
		}
		for _, entry := range entries {
			l = append(l, digest.Leaf(entry))
		}
		again, _ := store.Open(disk)
		for _, x := range []*tile.Tree{log.Tree(), again.Tree()} {
			asks := group(r, len(l), 10)
			replies, e := plan.Run(x, c, asks)
			if e != api.OK {
				t.Fatalf("L3: %d", e)
			}
			for i, ask := range asks {
				asRecursion(t, l, ask, replies[i])
			}
		}
	}
}

// Of a tree that layer 3 can't list, the layers below say the same.
func TestFullTreeAsBelow(t *testing.T) {
	if testing.Short() {
		t.Skip("it has 1048576 leaves")
	}
	r := rand.New(rand.NewSource(17))
	x, c := full().tree, empty(t, 100000)
	for range 30 {
		asks := group(r, api.MaxLeaves+1, 30)
		replies, e := plan.Run(x, c, asks)
		if e != api.OK {
			t.Fatalf("L3: %d", e)
		}
		asBelow(t, x, asks, replies)
	}
}
