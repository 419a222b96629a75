package loose_test

import (
	"slices"
	"strings"
	"testing"

	"sigil/api"
	"sigil/bind"
	"sigil/loose"
	"sigil/tree"
)

// merges looks whether two trees are merged to one.
func merges(t *testing.T, s *bind.Schema, name string, a, b, want api.Value) {
	t.Helper()
	v, trail, e := loose.Merge(s, name, a, b)
	if e != api.OK || len(trail) > 0 || !same(v, want) {
		t.Errorf("P1104: Merge(%s, %s) = %s, %v, %v, want %s", short(a), short(b), short(v), trail, e, short(want))
		return
	}
	if place, e := tree.Normal(s, name, v); e != api.OK {
		t.Errorf("P1104: Merge(%s, %s) = %s, which is %v at %v", short(a), short(b), short(v), e, place)
	}
}

// parts looks whether two trees can't be merged.
func parts(t *testing.T, s *bind.Schema, name string, a, b api.Value, want api.Errno, trail ...int) {
	t.Helper()
	v, got, e := loose.Merge(s, name, a, b)
	if e != want || !slices.Equal(got, trail) {
		t.Errorf("P1104: Merge(%.40q, %s, %s) answers %v at %v, want %v at %v", name, short(a), short(b), e, got, want, trail)
	}
	if !same(v, api.Value{}) {
		t.Errorf("P4: Merge(%.40q, %s, %s) answers %s beside %v", name, short(a), short(b), short(v), e)
	}
}

// badTree is a tree of w.W that can't be merged, with its error and trail.
type badTree struct {
	v     api.Value
	e     api.Errno
	trail []int
	early bool // by P6
}

// chain puts a value into messages of a field, one in another.
func chain(n, number int, v api.Value) api.Value {
	for range n {
		v = one(number, v)
	}
	return v
}

// nested puts a value into lists, one in another.
func nested(n int, v api.Value) api.Value {
	for range n {
		v = list(v)
	}
	return v
}

// badTrees are trees of each fault.
func badTrees() []badTree {
	return []badTree{
		{v: nested(200, num(1)), e: api.ErrDepth, early: true},
		{v: num(0), e: api.ErrType}, {v: api.Value{}, e: api.ErrType}, {v: one(unknown, num(0)), e: api.ErrType, trail: []int{unknown}}, {v: one(3, text("")), e: api.ErrType, trail: []int{3}}, {v: one(api.TString, text("\xff")), e: api.ErrType, trail: []int{api.TString}}, {v: one(repeated+3, list(num(1), num(1<<31))), e: api.ErrType, trail: []int{repeated + 3, 1}}, {v: one(mapped+3, dict(kv("", num(1)), pair(text("")))), e: api.ErrType, trail: []int{mapped + 3, 1}},
		{v: one(3, num(0)), e: api.ErrNormal, trail: []int{3}}, {v: msg(at(4, num(1)), at(3, num(1))), e: api.ErrNormal, trail: []int{3}}, {v: one(repeated+3, list()), e: api.ErrNormal, trail: []int{repeated + 3}}, {v: msg(at(member+3, num(1)), at(member+4, num(1))), e: api.ErrNormal, trail: []int{member + 4}}, {v: one(mapped+3, dict(kv("b", num(1)), kv("a", num(1)))), e: api.ErrNormal, trail: []int{mapped + 3, 1}}, {v: one(api.TMessage, one(3, num(0))), e: api.ErrNormal, trail: []int{api.TMessage, 3}},
		{v: chain(64, api.TMessage, msg()), e: api.ErrDepth, trail: slices.Repeat([]int{api.TMessage}, 64)},
	}
}

func TestMergeEachCard(t *testing.T) { // P1104: of every field: what just one has; what both have
	s := wideSchema()
	info, _ := s.Message("w.W")
	for _, f := range info.Fields {
		n := f.Number
		a, b := valuesOf(f)
		zero := zeroOf(f.Type)
		switch f.Card {
		case api.CRepeated:
			merges(t, s, "w.W", one(n, list(a)), one(n, list(b)), one(n, list(a, b)))
			merges(t, s, "w.W", one(n, list(a, zero)), one(n, list(b, a, b)), one(n, list(a, zero, b, a, b)))
			merges(t, s, "w.W", one(n, list(zero)), one(n, list(zero)), one(n, list(zero, zero)))
			a, b = list(a), list(b, b)
		case api.CMap:
			keys, _ := keysOf(f.Key)
			k, l := keys[0], keys[1]
			merges(t, s, "w.W", one(n, dict(pair(k, a))), one(n, dict(pair(l, b))), one(n, dict(pair(k, a), pair(l, b))))
			merges(t, s, "w.W", one(n, dict(pair(l, a))), one(n, dict(pair(k, b))), one(n, dict(pair(k, b), pair(l, a))))
			merges(t, s, "w.W", one(n, dict(pair(k, a))), one(n, dict(pair(k, b))), one(n, dict(pair(k, b)))) // whole, messages too
			merges(t, s, "w.W", one(n, dict(pair(k, a), pair(l, b))), one(n, dict(pair(k, zero))), one(n, dict(pair(k, zero), pair(l, b))))
			merges(t, s, "w.W", one(n, dict(pair(k, a), pair(l, b))), one(n, dict(pair(l, a))), one(n, dict(pair(k, a), pair(l, a))))
			a, b = dict(pair(k, a)), dict(pair(l, b))
		default:
			want := b
			if f.Type == api.TMessage {
				want = msg(append(slices.Clone(a.Fields), b.Fields...)...)
			}
			merges(t, s, "w.W", one(n, a), one(n, b), one(n, want))
			merges(t, s, "w.W", one(n, b), one(n, b), one(n, b))
			if f.Type == api.TMessage {
				merges(t, s, "w.W", one(n, a), one(n, zero), one(n, a))
			} else if f.Card == api.COptional || f.Oneof > 0 {
				merges(t, s, "w.W", one(n, a), one(n, zero), one(n, zero))
				merges(t, s, "w.W", one(n, zero), one(n, a), one(n, a))
			}
		}
		merges(t, s, "w.W", one(n, a), msg(), one(n, a))
		merges(t, s, "w.W", msg(), one(n, b), one(n, b))
		merges(t, s, "w.W", msg(), msg(), msg())
		if n > 3 && n < far {
			merges(t, s, "w.W", one(n, a), msg(at(3, num(5)), at(far, num(7))), msg(at(3, num(5)), at(n, a), at(far, num(7))))
			merges(t, s, "w.W", msg(at(3, num(5)), at(far, num(7))), one(n, a), msg(at(3, num(5)), at(n, a), at(far, num(7))))
		}
	}
}

// valuesOf are two values of a field's type that are no zeros; messages have fields apart, the second ones behind.
func valuesOf(f api.Field) (api.Value, api.Value) {
	switch {
	case f.Type == api.TMessage && f.Of == "w.W":
		return one(3, num(5)), msg(at(4, num(7)), at(far, num(1)))
	case f.Type == api.TMessage && f.Of == "w.V":
		return one(1, num(-5)), one(2, one(3, num(7)))
	case f.Type == api.TMessage:
		return one(1, num(5)), one(5, text("x"))
	case f.Type == api.TString || f.Type == api.TBytes:
		return text("a"), text("bc")
	case f.Type == api.TBool:
		return num(1), num(1)
	}
	return num(7), num(3)
}

func TestMergeOneofs(t *testing.T) { // P1104: of a oneof b's member if b has one, else a's; every two members
	s := wideSchema()
	for x := api.TDouble; x <= api.TMessage; x++ {
		for y := api.TDouble; y <= api.TMessage; y++ {
			a, b := one(member+x, zeroOf(x)), one(member+y, zeroOf(y))
			merges(t, s, "w.W", a, b, b)
			merges(t, s, "w.W", msg(at(3, num(1)), a.Fields[0], at(other, num(1))), msg(at(4, num(1)), b.Fields[0], at(other+1, num(0))), msg(at(3, num(1)), at(4, num(1)), b.Fields[0], at(other+1, num(0))))
		}
		a := one(member+x, zeroOf(x))
		merges(t, s, "w.W", a, one(3, num(1)), msg(at(3, num(1)), a.Fields[0]))
		merges(t, s, "w.W", one(other, num(0)), a, msg(a.Fields[0], at(other, num(0))))
	}
	// The same member, a message: merged, and so are those within it.
	in := func(l ...api.Entry) api.Value { return one(member+api.TMessage, msg(l...)) }
	merges(t, s, "w.W", in(at(3, num(1))), in(at(4, num(2))), in(at(3, num(1)), at(4, num(2))))
	merges(t, s, "w.W", in(at(member+3, num(1))), in(at(member+4, num(2))), in(at(member+4, num(2))))
	merges(t, s, "w.W", in(at(member+17, one(3, num(1)))), in(at(member+17, one(4, num(2)))), in(at(member+17, msg(at(3, num(1)), at(4, num(2))))))
}

func TestMergeDeep(t *testing.T) { // P1104: 64 messages in one another on either side; lists and maps within messages that are merged
	s := wideSchema()
	deep := chain(63, api.TMessage, one(3, num(1)))
	deeper := chain(63, api.TMessage, one(4, num(2)))
	merges(t, s, "w.W", deep, deeper, chain(63, api.TMessage, msg(at(3, num(1)), at(4, num(2)))))
	merges(t, s, "w.W", deep, chain(62, api.TMessage, one(repeated+3, list(num(1)))), chain(62, api.TMessage, msg(at(17, one(3, num(1))), at(repeated+3, list(num(1))))))
	merges(t, s, "w.W", one(17, one(mapped+17, dict(kv("a", one(3, num(1))), kv("b", msg())))), one(17, one(mapped+17, dict(kv("a", one(4, num(1)))))), one(17, one(mapped+17, dict(kv("a", one(4, num(1))), kv("b", msg())))))
	merges(t, s, "w.W", one(ofV, one(2, one(ofU, one(1, num(1))))), one(ofV, one(2, one(ofU, one(4, text(""))))), one(ofV, one(2, one(ofU, msg(at(1, num(1)), at(4, text("")))))))
}

func TestNotAssociative(t *testing.T) { // P1105: a member of a oneof that stood in between is forgotten
	s := smallSchema()
	a, b, c := one(7, one(1, num(1))), one(6, num(0)), one(7, msg())
	ab, _, _ := loose.Merge(s, "p.M", a, b)
	bc, _, _ := loose.Merge(s, "p.M", b, c)
	merges(t, s, "p.M", ab, c, one(7, msg()))
	merges(t, s, "p.M", a, bc, one(7, one(1, num(1))))
}

func TestMergeWithNothing(t *testing.T) { // P1105: with the tree without fields, on either side, it is the other one
	s := wideSchema()
	for _, name := range s.Messages() {
		for seed := range int64(500) {
			v := newMaker(seed).normal(name)
			merges(t, s, name, v, msg(), v)
			merges(t, s, name, msg(), v, v)
		}
	}
}

// secondMerge is a second merging of two normal trees: by a list of all fields of the type.
func secondMerge(s *bind.Schema, name string, a, b api.Value) api.Value {
	info, _ := s.Message(name)
	find := func(v api.Value, number int) *api.Value {
		for i := range v.Fields {
			if v.Fields[i].Number == number {
				return &v.Fields[i].Value
			}
		}
		return nil
	}
	v := msg()
	for _, f := range info.Fields {
		x, y := find(a, f.Number), find(b, f.Number)
		hidden := false
		for _, g := range info.Fields {
			hidden = hidden || f.Oneof > 0 && g.Oneof == f.Oneof && g.Number != f.Number && find(b, g.Number) != nil
		}
		switch {
		case y == nil && (x == nil || hidden):
		case y == nil:
			v.Fields = append(v.Fields, at(f.Number, *x))
		case x == nil:
			v.Fields = append(v.Fields, at(f.Number, *y))
		case f.Card == api.CRepeated:
			v.Fields = append(v.Fields, at(f.Number, list(slices.Concat(x.List, y.List)...)))
		case f.Card == api.CMap:
			l := slices.DeleteFunc(slices.Clone(x.List), func(p api.Value) bool {
				return slices.ContainsFunc(y.List, func(q api.Value) bool { return same(p.List[0], q.List[0]) })
			})
			l = append(l, y.List...)
			slices.SortFunc(l, func(p, q api.Value) int { return tree.Keys(f.Key, p.List[0], q.List[0]) })
			v.Fields = append(v.Fields, at(f.Number, dict(l...)))
		case f.Type == api.TMessage:
			v.Fields = append(v.Fields, at(f.Number, secondMerge(s, f.Of, *x, *y)))
		default:
			v.Fields = append(v.Fields, at(f.Number, *y))
		}
	}
	return v
}

func TestMergeMade(t *testing.T) { // P1104: made trees, with those of which they share something
	s := wideSchema()
	for _, name := range s.Messages() {
		for seed := range int64(800) {
			m := newMaker(seed)
			a, b := m.normal(name), m.normal(name)
			merges(t, s, name, a, b, secondMerge(s, name, a, b))
			merges(t, s, name, b, a, secondMerge(s, name, b, a))
			merges(t, s, name, a, a, secondMerge(s, name, a, a))
		}
	}
}

func TestMergeFaults(t *testing.T) { // P1104: each fault of either tree, beside a right one and beside each other
	s := wideSchema()
	good := one(3, num(1))
	for _, a := range badTrees() {
		parts(t, s, "w.W", a.v, good, a.e, a.trail...)
		parts(t, s, "w.W", good, a.v, a.e, a.trail...)
		parts(t, s, "w.W", a.v, msg(), a.e, a.trail...)
		parts(t, s, "w.W", msg(), a.v, a.e, a.trail...)
		for _, b := range badTrees() {
			want := a
			if b.early && !a.early { // of both P6 first
				want = b
			}
			parts(t, s, "w.W", a.v, b.v, want.e, want.trail...)
		}
	}
}

func TestMergeOfOneTree(t *testing.T) { // P1104: two faults in one tree, by tree.Normal's order
	s := wideSchema()
	two := msg(at(3, num(0)), at(unknown, num(0)))
	parts(t, s, "w.W", two, msg(), api.ErrType, unknown)
	parts(t, s, "w.W", msg(), two, api.ErrType, unknown)
	deepZero := msg(at(17, chain(63, 17, msg())), at(repeated+3, list()))
	parts(t, s, "w.W", deepZero, msg(), api.ErrNormal, repeated+3)
	parts(t, s, "w.W", msg(), deepZero, api.ErrNormal, repeated+3)
}

func TestMergeOfManyValues(t *testing.T) { // P1104, P6: trees of MaxValues values and of one more, ahead of all but the name; more than that in what comes out
	s := wideSchema()
	zeros := make([]api.Value, api.MaxValues)
	for i := range zeros {
		zeros[i].Kind = api.VNum
	}
	bools := func(n int) api.Value { return one(repeated+api.TBool, list(zeros[:n]...)) }
	over := bools(api.MaxValues - 1)
	parts(t, s, "w.W", over, num(1), api.ErrLong)
	parts(t, s, "w.W", num(1), over, api.ErrLong)
	parts(t, s, "w.W", nested(200, num(1)), over, api.ErrDepth)
	parts(t, s, "w.W", over, nested(200, num(1)), api.ErrLong)
	parts(t, s, "w.X", over, msg(), api.ErrName)
	parts(t, s, "w.W", bools(api.MaxValues-2), msg(), api.ErrSize)
	parts(t, s, "w.W", bools(api.MaxValues/2), bools(api.MaxValues/2), api.ErrSize)
	// What is hidden does not count.
	merges(t, s, "w.W", one(mapped+17, dict(kv("k", bools(api.MaxValues-8)))), one(mapped+17, dict(kv("k", msg()))), one(mapped+17, dict(kv("k", msg()))))
}

func TestMergeSize(t *testing.T) { // P1104: what comes out has MaxMessage canonical bytes, and one more
	s := wideSchema()
	const most = api.MaxMessage
	long := func(n int) api.Value { return text(strings.Repeat("x", n)) }
	a, b := one(api.TString, long(500000)), one(api.TBytes, long(most-500000-4-4))
	merges(t, s, "w.W", a, b, msg(a.Fields[0], b.Fields[0]))
	b.Fields[0].Value.Text += "x"
	parts(t, s, "w.W", a, b, api.ErrSize)
	parts(t, s, "w.W", b, a, api.ErrSize)
	parts(t, s, "w.W", one(17, a), one(17, b), api.ErrSize)
	// One that is too large by itself: it counts what comes out.
	huge := one(api.TString, long(most))
	parts(t, s, "w.W", huge, msg(), api.ErrSize)
	parts(t, s, "w.W", msg(), huge, api.ErrSize)
	parts(t, s, "w.W", one(api.TString, text("a")), huge, api.ErrSize)
	merges(t, s, "w.W", huge, one(api.TString, text("a")), one(api.TString, text("a")))
	merges(t, s, "w.W", one(member+api.TString, long(most)), one(member+3, num(0)), one(member+3, num(0)))
	// Behind all other errors.
	parts(t, s, "w.W", huge, one(3, num(0)), api.ErrNormal, 3)
	parts(t, s, "w.W", one(3, num(0)), huge, api.ErrNormal, 3)
}
