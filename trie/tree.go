package trie

// tree is things by their places. A place is a digest, whose bits are the way down to the thing. The zero value has none.
type tree[T any] struct {
	top  node[T] // nil, as long as nothing was laid
	many int     // things
}

// node is the things whose places begin with the bits that lead to it: nothing, a leaf or a fork. None is changed once it is made, so that clones may share them.
type node[T any] interface {
	hash() string
}

// nothing is no thing.
type nothing[T any] struct{}

// leaf is one thing.
type leaf[T any] struct {
	place, sum string
	thing      T
}

// fork is two things or more: those whose next bit is 0, and the others.
type fork[T any] struct {
	sides [2]node[T]
	sum   string
}

func (nothing[T]) hash() string { return nought }

func (l *leaf[T]) hash() string { return l.sum }

func (f *fork[T]) hash() string { return f.sum }

func forkOf[T any](sides [2]node[T]) *fork[T] {
	return &fork[T]{sides, forkHash([2]string{sides[0].hash(), sides[1].hash()})}
}

// from is the node at the top.
func (t tree[T]) from() node[T] {
	if t.top == nil {
		return nothing[T]{}
	}
	return t.top
}

// way goes down to a place, as far as there are forks: the hash of the other side of each, and the leaf in the end, if one stands there.
func (t tree[T]) way(place string) ([]string, *leaf[T]) {
	var others []string
	for n := t.from(); ; {
		switch x := n.(type) {
		case *fork[T]:
			b := bit(place, len(others))
			others = append(others, x.sides[1-b].hash())
			n = x.sides[b]
		case *leaf[T]:
			return others, x
		default:
			return others, nil
		}
	}
}

// find is the leaf of a place, if it is there.
func (t tree[T]) find(place string) (*leaf[T], bool) {
	if _, l := t.way(place); l != nil && l.place == place {
		return l, true
	}
	return nil, false
}

// lay lets a leaf be there, in the stead of another one of its place.
func (t *tree[T]) lay(l *leaf[T]) {
	if _, there := t.find(l.place); !there {
		t.many++
	}
	t.top = laid(t.from(), 0, l)
}

// take takes the leaf of a place away; was it there?
func (t *tree[T]) take(place string) bool {
	_, there := t.find(place)
	if there {
		t.top = without[T](t.from(), 0, place)
		t.many--
	}
	return there
}

// laid is a node of a depth, with a leaf more, or with that one in the stead of another one of its place.
func laid[T any](n node[T], depth int, l *leaf[T]) node[T] {
	var sides [2]node[T]
	switch x := n.(type) {
	case *fork[T]:
		sides = x.sides
	case *leaf[T]:
		if x.place == l.place {
			return l
		}
		sides = [2]node[T]{nothing[T]{}, nothing[T]{}}
		sides[bit(x.place, depth)] = x
	default:
		return l
	}
	b := bit(l.place, depth)
	sides[b] = laid(sides[b], depth+1, l)
	return forkOf(sides)
}

// without is a node of a depth, but for the leaf of a place, which must be there.
func without[T any](n node[T], depth int, place string) node[T] {
	x, ok := n.(*fork[T])
	if !ok {
		return nothing[T]{}
	}
	sides, b := x.sides, bit(place, depth)
	sides[b] = without[T](sides[b], depth+1, place)
	if l, ok := alone(sides); ok {
		return l
	}
	return forkOf(sides)
}

// alone is the leaf of two sides that have nothing else: it stands where the fork would, since one thing has the same hash at each depth.
func alone[T any](sides [2]node[T]) (*leaf[T], bool) {
	for i := range sides {
		_, empty := sides[i].(nothing[T])
		if l, ok := sides[1-i].(*leaf[T]); ok && empty {
			return l, true
		}
	}
	return nil, false
}

// each does something with all things of a node.
func each[T any](n node[T], do func(T)) {
	switch x := n.(type) {
	case *fork[T]:
		each(x.sides[0], do)
		each(x.sides[1], do)
	case *leaf[T]:
		do(x.thing)
	}
}
