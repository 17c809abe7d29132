package cache

// table finds things by their keys. The zero value has none.
type table[K comparable, T any] struct{ things map[K]T }

func (t *table[K, T]) find(key K) (T, bool) {
	thing, there := t.things[key]
	return thing, there
}

func (t *table[K, T]) lay(key K, thing T) {
	if t.things == nil {
		t.things = map[K]T{}
	}
	t.things[key] = thing
}

func (t *table[K, T]) take(key K) { delete(t.things, key) }
