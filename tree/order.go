package tree

import (
	"cmp"

	"sigil/api"
)

// beside are the values at one place of two trees: nil where one has none there.
type beside struct {
	a, b    *api.Value
	numbers int // how the numbers of their entries compare
}

// compare puts trees that P6 does not refuse into an order.
func compare(a, b *api.Value) int {
	return fold(beside{a: a, b: b}, folding[beside, int]{
		parts: func(n beside) int { return n.lists() + max(len(n.a.Fields), len(n.b.Fields)) },
		part:  beside.part,
		begin: func(n beside) (int, bool) {
			so := n.unlike()
			return so, so == 0
		},
		// The first that is unlike has ended it: all that is joined is alike.
		join: func(so, part int) int { return so },
		end:  func(_ beside, so int) int { return so },
	})
}

// unlike compares two values without their parts. None at all comes ahead of any, so that the shorter of two lists that begin alike is first.
func (n beside) unlike() int {
	switch {
	case n.a == nil:
		return -1
	case n.b == nil:
		return 1
	}
	return cmp.Or(n.numbers, cmp.Compare(n.a.Kind, n.b.Kind), cmp.Compare(n.a.Num, n.b.Num), cmp.Compare(n.a.Text, n.b.Text))
}

// lists tells how many values the longer list has.
func (n beside) lists() int { return max(len(n.a.List), len(n.b.List)) }

// part tells what stands side by side: values of the lists, then entries.
func (n beside) part(i int) beside {
	if i < n.lists() {
		return beside{a: at(n.a.List, i), b: at(n.b.List, i)}
	}
	i -= n.lists()
	a, b := at(n.a.Fields, i), at(n.b.Fields, i)
	switch {
	case a == nil:
		return beside{b: &b.Value}
	case b == nil:
		return beside{a: &a.Value}
	}
	return beside{a: &a.Value, b: &b.Value, numbers: cmp.Compare(a.Number, b.Number)}
}

// at tells where a list's element is, nil behind its end.
func at[T any](l []T, i int) *T {
	if i < len(l) {
		return &l[i]
	}
	return nil
}

// compareKeys puts keys into their order.
func compareKeys(keyType int, a, b *api.Value) int {
	switch {
	case keyType == api.TUint64 || keyType == api.TFixed64:
		return cmp.Compare(uint64(a.Num), uint64(b.Num))
	case numeric(keyType):
		return cmp.Compare(a.Num, b.Num)
	case keyType == api.TString:
		return cmp.Compare(a.Text, b.Text)
	}
	return compare(taken(a), taken(b))
}
