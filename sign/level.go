package sign

import (
	"sigil/api"
	"sigil/digest"
)

// digester makes the digest of a value.
type digester func(v *api.Value) []byte

// level is how the digest of a message, a list or a map is made of what hangs on it, each part of which has a step to it.
type level struct {
	part   func(v *api.Value, i int) (api.Step, *api.Value) // the part of a place, and the step to it
	inside func(st api.Step) digester                       // what makes the digest of the part at a step
	leaf   func(st api.Step, part []byte) []byte            // the leaf of the part at a step, of its digest
	over   func(count int, root []byte) []byte              // the digest of all, of how many leaves there are, and their root
}

// digest is that of a value with all that hangs on it.
func (l level) digest(v *api.Value) []byte {
	leaves := make([][]byte, count(v))
	for i := range leaves {
		leaves[i] = l.leafAt(v, i)
	}
	root, _ := digest.Root(leaves)
	return l.over(len(leaves), root)
}

// rung tells the place of the part at a step, which is there, and what stands beside it; and that part.
func (l level) rung(v *api.Value, to api.Step) (api.Rung, *api.Value) {
	r := api.Rung{Of: count(v)}
	var in *api.Value
	leaves := make([][]byte, r.Of)
	for i := range leaves {
		st, part := l.part(v, i)
		if isStep(st, to) {
			// In its way a leaf itself is not: it may be left out.
			r.At, in = i, part
			continue
		}
		leaves[i] = l.leafAt(v, i)
	}
	r.Beside, _ = digest.Prove(leaves, r.At)
	return r, in
}

// leafAt is the leaf of the part of a place.
func (l level) leafAt(v *api.Value, i int) []byte {
	st, part := l.part(v, i)
	return l.leaf(st, l.inside(st)(part))
}

// count tells how many parts hang on a message, a list or a map.
func count(v *api.Value) int { return len(v.Fields) + len(v.List) }

// isStep says whether two steps that go from one value are the same.
func isStep(a, b api.Step) bool {
	return a.Number == b.Number && a.Key.Num == b.Key.Num && a.Key.Text == b.Key.Text
}
