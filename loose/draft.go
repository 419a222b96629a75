package loose

import (
	"cmp"
	"slices"

	"sigil/api"
	"sigil/tree"
)

// draft is what was read of a message, or of a pair, so far: by the fields' seats what is held there. Records that come later are laid upon it, so that it is no tree yet.
type draft map[int]*held

// held is what a field holds so far.
type held struct {
	field *field
	value api.Value   // of a map: its pairs in the order in which their keys came first
	inner draft       // of a message, which has no other value then
	pairs map[key]int // of a map: where the pair of each key stands
}

// key is what the keys of one map differ in.
type key struct {
	num  int
	text string
}

// at tells what a field holds, its zero if it was not there. Who takes the seat of another member of a oneof takes it away.
func (d draft) at(f *field) *held {
	h, ok := d[f.seat]
	if !ok || h.field != f {
		h = &held{field: f, value: f.zero}
		d[f.seat] = h
	}
	return h
}

// tree tells the message that was read, when all its records were.
func (d draft) tree() api.Value {
	v := api.Value{Kind: api.VMessage}
	for _, h := range d {
		if in := h.tree(); h.field.shows(in) {
			v.Fields = append(v.Fields, api.Entry{Number: h.field.number, Value: in})
		}
	}
	slices.SortFunc(v.Fields, byNumber)
	return v
}

// tree tells the value that is held, when all records were read.
func (h *held) tree() api.Value {
	switch {
	case h.inner != nil:
		return h.inner.tree()
	case h.pairs != nil:
		slices.SortFunc(h.value.List, h.field.byKey)
	}
	return h.value
}

// put takes a pair into the map that is held, in the place of one with the same key.
func (h *held) put(k, v api.Value) {
	if h.pairs == nil {
		h.pairs = map[key]int{}
	}
	of, pair := key{k.Num, k.Text}, api.Value{Kind: api.VPair, List: []api.Value{k, v}}
	if i, ok := h.pairs[of]; ok {
		h.value.List[i] = pair
		return
	}
	h.pairs[of] = len(h.value.List)
	h.value.List = append(h.value.List, pair)
}

// byNumber puts the entries of a message into their order.
func byNumber(a, b api.Entry) int { return cmp.Compare(a.Number, b.Number) }

// byKey tells what puts the pairs of a map with keys of a type into their order.
func byKey(keyType int) func(a, b api.Value) int {
	return func(a, b api.Value) int { return tree.Keys(keyType, a.List[0], b.List[0]) }
}
