// Package ordered: a map that is kept in order.
package ordered

import (
	"iter"
	"slices"
)

// entry is a key and what stands under it.
type entry[K, V any] struct {
	key   K
	value V
}

// Map has its entries in the order of their keys.
type Map[K, V any] struct {
	compare func(a, b K) int
	entries []entry[K, V]
}

// New makes an empty map; compare tells below 0, if a stands ahead of b, 0, if they are one key.
func New[K, V any](compare func(a, b K) int) *Map[K, V] {
	return &Map[K, V]{compare: compare}
}

// Len tells how many entries there are.
func (m *Map[K, V]) Len() int { return len(m.entries) }

// Get tells what stands under a key.
func (m *Map[K, V]) Get(key K) (V, bool) {
	at, there := m.place(key)
	if !there {
		var none V
		return none, false
	}
	return m.entries[at].value, true
}

// Put lets a value stand under a key, in place of what stood there.
func (m *Map[K, V]) Put(key K, value V) {
	at, there := m.place(key)
	if there {
		m.entries[at].value = value
		return
	}
	m.entries = slices.Insert(m.entries, at, entry[K, V]{key: key, value: value})
}

// PutWithin is Put, if the map has no more than most entries then; else it tells false, and all is as it was.
func (m *Map[K, V]) PutWithin(most int, key K, value V) bool {
	if _, there := m.place(key); !there && m.Len() >= most {
		return false
	}
	m.Put(key, value)
	return true
}

// Delete takes a key away; false, if it is not there.
func (m *Map[K, V]) Delete(key K) bool {
	at, there := m.place(key)
	if there {
		m.entries = slices.Delete(m.entries, at, at+1)
	}
	return there
}

// All goes through the entries in order.
func (m *Map[K, V]) All() iter.Seq2[K, V] {
	return func(yield func(K, V) bool) {
		for _, e := range m.entries {
			if !yield(e.key, e.value) {
				return
			}
		}
	}
}

// place tells where a key stands or would stand, and whether it does.
func (m *Map[K, V]) place(key K) (int, bool) {
	return slices.BinarySearchFunc(m.entries, key, m.against)
}

// against compares an entry's key with another.
func (m *Map[K, V]) against(e entry[K, V], key K) int { return m.compare(e.key, key) }
