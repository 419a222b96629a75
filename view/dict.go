package view

import (
	"slices"

	"sigil/api"
	"sigil/tree"
)

// dict is a map that has records: the contents of its pairs, into which nobody has looked yet.
type dict struct {
	*lens
	field    api.Field
	depth    int // of the message that holds it
	contents []record
}

// pair is a pair that was looked into.
type pair struct {
	key   api.Value
	value held
}

// fields tells a pair's field of a number.
func (d dict) fields(number int) (api.Field, bool) {
	switch number {
	case 1:
		return api.Field{Number: 1, Card: api.COptional, Type: d.field.Key}, true
	case 2:
		return api.Field{Number: 2, Card: api.COptional, Type: d.field.Type, Of: d.field.Of}, true
	}
	return api.Field{}, false
}

// look looks into a pair, and reads its key.
func (d dict) look(content []byte) pair {
	in := seats{}
	d.records(content, d.depth, d.fields, in.take)
	k, _ := d.fields(1)
	v, _ := d.fields(2)
	key := d.says(k, d.depth, in.of(k))
	key.check()
	return pair{key.value(), d.says(v, d.depth, in.of(v))}
}

// pairs looks into all pairs, in their order, and tells those that count: of each key the last one. They rise.
func (d dict) pairs() []pair {
	var l []pair
	for _, r := range d.contents {
		l = append(l, d.look(r.text))
	}
	slices.Reverse(l) // so that of those with one key the last one comes first, and stays
	slices.SortStableFunc(l, func(a, b pair) int { return d.compare(a, b.key) })
	return slices.CompactFunc(l, func(a, b pair) bool { return d.compare(a, b.key) == 0 })
}

// compare puts a pair and a key into the order of keys.
func (d dict) compare(p pair, key api.Value) int { return tree.Keys(d.field.Key, p.key, key) }

func (d dict) next(st api.Step) held {
	l := d.pairs()
	if i, ok := slices.BinarySearchFunc(l, st.Key, d.compare); ok {
		return l[i].value
	}
	return nil
}

func (d dict) check() {
	for _, r := range d.contents {
		d.records(r.text, d.depth, d.fields, d.whole(d.depth))
	}
}

func (d dict) value() api.Value {
	v := api.Value{Kind: api.VMap}
	for _, p := range d.pairs() {
		v.List = append(v.List, api.Value{Kind: api.VPair, List: []api.Value{p.key, p.value.value()}})
	}
	return v
}

func (d dict) spread() (int, func(i int) (api.Step, held)) {
	l := d.pairs()
	return len(l), func(i int) (api.Step, held) {
		return api.Step{Kind: api.SKey, Key: l[i].key}, l[i].value
	}
}
