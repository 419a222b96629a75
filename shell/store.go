package shell

import (
	"sigil/api"
	"sigil/bind"
	"sigil/order"
)

// message is a tree with the schema and the type that it is of.
type message struct {
	schema *bind.Schema
	typ    string
	value  api.Value
}

// heavy is a thing with its weight.
type heavy[T any] struct {
	thing  T
	weight int
}

// shelf holds things of one kind by their names, and what all of them weigh. It stays as it is: with another thing it is another shelf.
type shelf[T any] struct {
	things *order.Map[string, heavy[T]]
	weight int
}

func newShelf[T any]() shelf[T] { return shelf[T]{things: order.New[string, heavy[T]]()} }

// get tells the thing of a name, and whether there is one.
func (s shelf[T]) get(name string) (T, bool) {
	h, ok := s.things.Get(name)
	return h.thing, ok
}

// with is the shelf with a thing in the place of the one that had its name.
func (s shelf[T]) with(name string, thing T, weight int) shelf[T] {
	old, _ := s.things.Get(name)
	return shelf[T]{s.things.Put(name, heavy[T]{thing, weight}), s.weight - old.weight + weight}
}

// store is all things that a run has under names, but for its registry. What changes it makes another one of it, of which it may be asked first whether it fits.
type store struct {
	sources *order.Map[string, []api.Source]
	schemas *order.Map[string, *bind.Schema]
	trees   shelf[message]
	blobs   shelf[[]byte]
	proofs  shelf[api.Proof]
	edits   shelf[[]api.Edit]
}

func newStore() store {
	return store{
		sources: order.New[string, []api.Source](),
		schemas: order.New[string, *bind.Schema](),
		trees:   newShelf[message](),
		blobs:   newShelf[[]byte](),
		proofs:  newShelf[api.Proof](),
		edits:   newShelf[[]api.Edit](),
	}
}

// fits says whether the things are no more than there is room for.
func (s store) fits() bool {
	return s.trees.weight+s.proofs.weight+s.edits.weight <= api.MaxValues && s.blobs.weight <= api.MaxLog
}

// weigh tells what a tree weighs: its values, and the bytes of their texts.
func weigh(v *api.Value) int {
	weight := 1 + len(v.Text)
	for i := range v.List {
		weight += weigh(&v.List[i])
	}
	for i := range v.Fields {
		weight += weigh(&v.Fields[i].Value)
	}
	return weight
}

// weighEdits tells what edits weigh: what their values do.
func weighEdits(l []api.Edit) int {
	weight := 0
	for _, edit := range l {
		for i := range edit.Values {
			weight += weigh(&edit.Values[i])
		}
	}
	return weight
}
