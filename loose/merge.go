package loose

import (
	"slices"

	"sigil/api"
	"sigil/bind"
	"sigil/tree"
)

// unfit tells why two trees can't be merged. That one is too large or too deep for any tree comes ahead of what is wrong in the other.
func unfit(s *bind.Schema, name string, a, b api.Value) ([]int, api.Errno) {
	trailA, errA := tree.Normal(s, name, a)
	if unread(trailA, errA) {
		return nil, errA
	}
	trailB, errB := tree.Normal(s, name, b)
	if unread(trailB, errB) || errA == api.OK {
		return trailB, errB
	}
	return trailA, errA
}

// unread says whether an error of tree.Normal is one of P6, ahead of those of the tree's content. (The ErrDepth of a 65th message has a trail, that of P6 has none. What is wrong with the name is answered of either tree, and may be taken as the one or the other.)
func unread(trail []int, e api.Errno) bool {
	return e == api.ErrLong || e == api.ErrDepth && len(trail) == 0
}

// join tells the message of a type that comes of two normal ones, one laid upon the other. It has their memory.
func (c *call) join(name string, under, over api.Value) api.Value {
	fields, _ := c.plan(name)
	taken := map[int]int{} // by seats the numbers of the fields that take them
	for _, e := range over.Fields {
		taken[fields[e.Number].seat] = e.Number
	}
	stay := slices.DeleteFunc(slices.Clone(under.Fields), func(e api.Entry) bool {
		number, ok := taken[fields[e.Number].seat]
		return ok && number != e.Number
	})
	both := func(a, b api.Entry) api.Entry {
		return api.Entry{Number: a.Number, Value: fields[a.Number].join(a.Value, b.Value)}
	}
	return api.Value{Kind: api.VMessage, Fields: merged(stay, over.Fields, byNumber, both)}
}

// joining tells what comes of two values of a single field.
func (c *call) joining(f api.Field) func(under, over api.Value) api.Value {
	if f.Type != api.TMessage {
		return upper
	}
	return func(under, over api.Value) api.Value { return c.join(f.Of, under, over) }
}

// upper is what is laid upon another, and hides it.
func upper(_, over api.Value) api.Value { return over }

// appended is a list behind another.
func appended(under, over api.Value) api.Value {
	return api.Value{Kind: api.VList, List: slices.Concat(under.List, over.List)}
}

// overlaid tells what comes of two maps whose pairs are in an order.
func overlaid(order func(a, b api.Value) int) func(under, over api.Value) api.Value {
	return func(under, over api.Value) api.Value {
		return api.Value{Kind: api.VMap, List: merged(under.List, over.List, order, upper)}
	}
}

// merged brings together two lists that rise: of what both have, what both tells.
func merged[T any](a, b []T, compare func(a, b T) int, both func(a, b T) T) []T {
	out := make([]T, 0, len(a)+len(b))
	for len(a) > 0 && len(b) > 0 {
		switch c := compare(a[0], b[0]); {
		case c < 0:
			out, a = append(out, a[0]), a[1:]
		case c > 0:
			out, b = append(out, b[0]), b[1:]
		default:
			out, a, b = append(out, both(a[0], b[0])), a[1:], b[1:]
		}
	}
	return append(append(out, a...), b...)
}
