package tree

import (
	"cmp"
	"slices"
	"strings"

	"sigil/api"
	"sigil/bind"
)

// normalised tells the normal tree that a typed one means.
func normalised(s *bind.Schema, p spot) api.Value {
	v := api.Value{Kind: p.v.Kind, Num: p.v.Num, Text: strings.Clone(p.v.Text)}
	switch p.v.Kind {
	case api.VMessage:
		stay := staying(s, p)
		v.Fields = slices.Grow(v.Fields, len(stay))
		for _, q := range stay {
			v.Fields = append(v.Fields, api.Entry{Number: q.field.Number, Value: normalised(s, q)})
		}
	case api.VMap:
		v.List = listed(s, p, lastPairs(p))
	case api.VList, api.VPair:
		v.List = listed(s, p, indexes(p.v.List))
	}
	return v
}

// listed tells the values of these places of a list, each normalised.
func listed(s *bind.Schema, p spot, places []int) []api.Value {
	l := make([]api.Value, len(places))
	for i, place := range places {
		l[i] = normalised(s, within(s, p, place))
	}
	return l
}

// staying tells the fields that stay of a message, in their order.
func staying(s *bind.Schema, p spot) []spot {
	var stay []spot
	met := map[int]struct{}{}
	for i := range slices.Backward(p.v.Fields) {
		q := within(s, p, i)
		if _, ok := met[claim(q.field)]; !ok {
			met[claim(q.field)] = struct{}{}
			stay = append(stay, q)
		}
	}
	// Only now: a zero takes away what stood ahead of it, too.
	stay = slices.DeleteFunc(stay, spot.idle)
	slices.SortFunc(stay, func(a, b spot) int { return cmp.Compare(a.field.Number, b.field.Number) })
	return stay
}

// claim tells what just one entry of a message can have: the number of a field; of the members of a oneof one that they have in common, and no field.
func claim(f api.Field) int {
	if f.Oneof > 0 {
		return -f.Oneof
	}
	return f.Number
}

// lastPairs tells the places of the pairs that stay of a map, in their order.
func lastPairs(p spot) []int {
	pairs := p.v.List
	byKey := func(i, j int) int { return compareKeys(p.field.Key, &pairs[i].List[0], &pairs[j].List[0]) }
	places := indexes(pairs)
	slices.SortFunc(places, func(i, j int) int { return cmp.Or(byKey(i, j), cmp.Compare(j, i)) })
	// The last of each key now stands ahead of the others that have it.
	return slices.CompactFunc(places, func(i, j int) bool { return byKey(i, j) == 0 })
}

// indexes tells the places of a list.
func indexes[T any](l []T) []int {
	places := make([]int, len(l))
	for i := range places {
		places[i] = i
	}
	return places
}
