package cache

// order is a list of things by when they were used. The zero value has none.
type order[T any] struct{ newest, oldest *place[T] }

// place is that of a thing in an order, with its neighbours there.
type place[T any] struct {
	thing        T
	newer, older *place[T]
}

// lay lets a thing that is not in the order be its newest one.
func (o *order[T]) lay(p *place[T]) {
	p.newer, p.older = nil, o.newest
	if o.newest == nil {
		o.oldest = p
	} else {
		o.newest.newer = p
	}
	o.newest = p
}

// take takes a thing out of the order: its neighbours are one another's.
func (o *order[T]) take(p *place[T]) {
	if p.newer == nil {
		o.newest = p.older
	} else {
		p.newer.older = p.older
	}
	if p.older == nil {
		o.oldest = p.newer
	} else {
		p.older.newer = p.newer
	}
}
