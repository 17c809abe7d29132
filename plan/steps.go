package plan

import (
	"slices"

	"scrivener/api"
)

// row is a step while it is made: heads that pairs lead to, each from the one ahead of it.
type row []int

// maker makes the steps of asks. Until the end its batches are leaves, even of one index, and its rows are rows.
type maker struct{ asks, steps []ask }

// stepsOf are the steps of asks that may be, and for each ask the number of the one that it goes to. No list of a step is one of an ask.
func stepsOf(asks []ask) ([]ask, []int) {
	m, of := maker{asks: asks}, make([]int, len(asks))
	for i, a := range asks {
		of[i] = m.place(a)
	}
	for i, s := range m.steps {
		m.steps[i] = ended(s)
	}
	return m.steps, of
}

// ended is what a step is in the end.
func ended(step ask) ask {
	switch s := step.(type) {
	case leaves:
		if len(s.indices) == 1 {
			return path{s.size, s.indices[0]}
		}
	case row:
		if len(s) == 2 {
			return proof{s[0], s[1]}
		}
		return heads(s)
	}
	return step
}

// place is the number of the step that an ask goes to.
func (m *maker) place(a ask) int {
	switch a := a.(type) {
	case path:
		return m.placeLeaves(leaves{a.size, []int{a.index}})
	case leaves:
		return m.placeLeaves(a)
	case proof:
		if a.first < a.second {
			return m.placePair(a)
		}
	case heads:
		return m.placeSame(slices.Clone(a))
	}
	return m.placeSame(a)
}

// placeSame lets a root, heads, or a proof from a size to itself go to the step that is the same.
func (m *maker) placeSame(a ask) int {
	for i, s := range m.steps {
		if same(s, a) {
			return i
		}
	}
	return m.add(a)
}

// same tells whether a step is an ask, of those kinds that are not put together with others.
func same(step, a ask) bool {
	switch s := step.(type) {
	case root:
		r, ok := a.(root)
		return ok && r == s
	case proof:
		p, ok := a.(proof)
		return ok && p == s
	case heads:
		h, ok := a.(heads)
		return ok && slices.Equal(h, s)
	}
	return false
}

// add makes a step, and tells its number.
func (m *maker) add(step ask) int {
	m.steps = append(m.steps, step)
	return len(m.steps) - 1
}

// placeLeaves lets leaves go to the batch of their size that was made last, as long as that has room for them.
func (m *maker) placeLeaves(a leaves) int {
	for i, s := range slices.Backward(m.steps) {
		b, ok := s.(leaves)
		if !ok || b.size != a.size {
			continue
		}
		if both := merged(b.indices, a.indices); len(both) <= api.MaxIndices {
			m.steps[i] = leaves{a.size, both}
			return i
		}
		break
	}
	return m.add(leaves{a.size, slices.Clone(a.indices)})
}

// merged are the numbers of both lists, rising, each once.
func merged(a, b []int) []int {
	both := slices.Concat(a, b)
	slices.Sort(both)
	return slices.Compact(both)
}

// placePair lets a pair go where a chain that is asked for goes, though it be asked for later; else to a row.
func (m *maker) placePair(p proof) int {
	for _, a := range m.asks {
		if h, ok := a.(heads); ok && pairIn(h, p) >= 0 {
			return m.place(h)
		}
	}
	for i, s := range m.steps {
		if r, ok := s.(row); ok && pairIn(r, p) >= 0 {
			return i
		}
	}
	for i, s := range m.steps {
		if r, ok := s.(row); ok && r[len(r)-1] == p.first && len(r) < api.MaxHeads {
			m.steps[i] = append(r, p.second)
			return i
		}
	}
	return m.add(row{p.first, p.second})
}

// pairIn tells where a pair's heads are neighbours in a list: the place of the first one, or -1.
func pairIn(list []int, p proof) int {
	for i := range len(list) - 1 {
		if list[i] == p.first && list[i+1] == p.second {
			return i
		}
	}
	return -1
}
