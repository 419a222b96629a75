// Package order: a sorted table whose old versions stay: see the chapter 01-order.md.
package order

import "iter"

// Key is what keys may be.
type Key interface {
	~int | ~uint64 | ~string
}

// Map is a table from keys to values, in the order of the keys. None of its methods changes it.
type Map[K Key, V any] struct {
	root *node[K, V]
}

// New makes an empty table.
func New[K Key, V any]() *Map[K, V] { return &Map[K, V]{} }

// Put is the table with a value at a key.
func (m *Map[K, V]) Put(k K, v V) *Map[K, V] {
	return &Map[K, V]{put(m.root, entry[K, V]{k, v})}
}

// Drop is the table without a key.
func (m *Map[K, V]) Drop(k K) *Map[K, V] {
	// Looked up first, so that nothing is copied for a key that is not there.
	if find(m.root, k) == nil {
		return &Map[K, V]{m.root}
	}
	return &Map[K, V]{drop(m.root, k)}
}

// Get tells the value at a key, and whether there is one.
func (m *Map[K, V]) Get(k K) (V, bool) {
	if n := find(m.root, k); n != nil {
		return n.val, true
	}
	var none V
	return none, false
}

// Len tells how many keys there are.
func (m *Map[K, V]) Len() int { return count(m.root) }

// At tells the key of that place in rising order, and its value.
func (m *Map[K, V]) At(i int) (K, V, bool) {
	if n := place(m.root, i); n != nil {
		return n.key, n.val, true
	}
	var none entry[K, V]
	return none.key, none.val, false
}

// Rank tells how many keys lie below a key, and whether it is there.
func (m *Map[K, V]) Rank(k K) (int, bool) { return rank(m.root, k) }

// Keys tells all keys, rising.
func (m *Map[K, V]) Keys() []K {
	keys := make([]K, 0, m.Len())
	for k := range m.All() {
		keys = append(keys, k)
	}
	return keys
}

// Join is the table with all of another's; where both have a key the other's value.
func (m *Map[K, V]) Join(o *Map[K, V]) *Map[K, V] {
	return &Map[K, V]{union(m.root, o.root)}
}

// Only is the table with the keys alone that another has too.
func (m *Map[K, V]) Only(o *Map[K, V]) *Map[K, V] {
	return &Map[K, V]{sift(m.root, o.root, true)}
}

// Without is the table without the keys that another has.
func (m *Map[K, V]) Without(o *Map[K, V]) *Map[K, V] {
	return &Map[K, V]{sift(m.root, o.root, false)}
}

// All goes through the table in rising order.
func (m *Map[K, V]) All() iter.Seq2[K, V] {
	root := m.root
	return func(yield func(K, V) bool) { each(root, yield) }
}

// From goes through it from the first key on that is not below k.
func (m *Map[K, V]) From(k K) iter.Seq2[K, V] {
	root := m.root
	return func(yield func(K, V) bool) { eachFrom(root, k, yield) }
}
