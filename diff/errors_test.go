package diff_test

import (
	"strings"
	"testing"

	"sigil/api"
	"sigil/diff"
	"sigil/tree"
)

// crowd is a normal message of the small schema on which more values hang than may be: most of them share their memory.
func crowd() api.Value {
	v := msg()
	for range 11 {
		v = one(4, dict(kv("a", v), kv("b", v), kv("c", v), kv("d", v)))
	}
	return v
}

// state is something that a tree is: what is told of it.
type state struct {
	v      api.Value
	e      api.Errno
	unread bool // it is told ahead of what other trees are
}

// states are trees of the small schema with each error, and without one.
func states() []state {
	return []state{
		{crowd(), api.ErrLong, true},
		{one(4, nested(199, num(0))), api.ErrDepth, true},
		{chain(200, 7, msg()), api.ErrDepth, true},
		{one(1, text("")), api.ErrType, false},
		{api.Value{}, api.ErrType, false},
		{one(1, num(0)), api.ErrNormal, false},
		{chain(64, 7, msg()), api.ErrDepth, false},
		{msg(), api.OK, false},
		{one(7, one(1, num(1))), api.OK, false},
	}
}

// names are names with each error.
var names = map[string]api.Errno{"": api.ErrName, "p.N": api.ErrName, "p": api.ErrName, "M": api.ErrName, ".p.M": api.ErrName, strings.Repeat("x", api.MaxName): api.ErrName, strings.Repeat("x", api.MaxName+1): api.ErrLong}

func TestStates(t *testing.T) { // the trees of these tests are what they are said to be
	for _, c := range states() {
		trail, e := tree.Normal(smallSchema(), "p.M", c.v)
		if e != c.e || c.unread != (e != api.OK && len(trail) == 0 && c.v.Kind == api.VMessage) {
			t.Errorf("%s: %v at %v", short(c.v), e, trail)
		}
	}
}

func TestTreesErrors(t *testing.T) { // P1902: the name's errors; P6 of a, then of b; then what a is, then what b is
	s := smallSchema()
	all := states()
	for i, a := range all {
		for j, b := range all {
			want := b.e
			if a.unread || a.e != api.OK && !b.unread {
				want = a.e
			}
			if want != api.OK {
				treesRefuse(t, s, "p.M", a.v, b.v, want)
			} else if _, e := diff.Trees(s, "p.M", a.v, b.v); e != api.OK {
				t.Errorf("P1902: %d, %d: %v", i, j, e)
			}
		}
		treesRefuse(t, s, "p.N", a.v, a.v, api.ErrName)
	}
	for name, e := range names {
		treesRefuse(t, s, name, msg(), msg(), e)
		treesRefuse(t, s, name, all[0].v, all[1].v, e)
	}
}

func TestTreesOfAnotherType(t *testing.T) { // P1902: trees are looked at by the type that is named; enums are none
	s := wideSchema()
	treesRefuse(t, s, "w.E", msg(), msg(), api.ErrName)
	refuses(t, s, "w.E", msg(), api.ErrName)
	turns(t, s, "w.V", one(1, num(-1)), one(1, num(1)), set("a", num(1)))
	treesRefuse(t, s, "w.U", one(1, num(-1)), one(1, num(1)), api.ErrType)
	treesRefuse(t, s, "w.U", one(1, num(1)), one(1, num(-1)), api.ErrType)
	treesRefuse(t, s, "w.W", msg(at(member+1, num(1)), at(member+2, num(1))), msg(), api.ErrNormal)
	treesRefuse(t, s, "w.W", msg(), one(keyed+api.TUint64, dict(pair(num(-1), num(1)), pair(num(1), num(1)))), api.ErrNormal)
}

// given are edits of which something is told by themselves.
type given struct {
	l []api.Edit
	e api.Errno
}

// wrongEdits are edits with each error that they have by themselves, and the first where there are more.
func wrongEdits() []given {
	many, deep := crowd(), nested(200, num(0))
	none := api.Edit{}
	return []given{
		{make([]api.Edit, api.MaxEdits+1), api.ErrLong},
		{append(make([]api.Edit, api.MaxEdits), set("a", many)), api.ErrLong},
		{make([]api.Edit, api.MaxEdits), api.ErrEdit},
		{[]api.Edit{none, set("a", many)}, api.ErrEdit},
		{[]api.Edit{set("a", many), none}, api.ErrLong},
		{[]api.Edit{set("a", deep), none}, api.ErrDepth},
		{[]api.Edit{set("a", many), set("a", deep)}, api.ErrLong},
		{[]api.Edit{set("a", deep), set("a", many)}, api.ErrDepth},
		{[]api.Edit{splice("c", 0, 0, num(1), deep, many)}, api.ErrDepth},
		{[]api.Edit{splice("c", 0, 0, num(1), many, deep)}, api.ErrLong},
		{[]api.Edit{splice("z", 9, 9, many)}, api.ErrLong},
		{[]api.Edit{set("z", deep)}, api.ErrDepth},
		{[]api.Edit{drop("z"), drop("."), set("a", deep)}, api.ErrDepth},
		{[]api.Edit{{Kind: api.ESet, Path: "a", At: 1, Values: []api.Value{many}}}, api.ErrEdit},
		{[]api.Edit{{Kind: api.EClear, Path: "a", Values: []api.Value{many}}}, api.ErrEdit},
		{[]api.Edit{{Kind: api.ESplice, Path: "c", Out: -1, Values: []api.Value{deep}}}, api.ErrEdit},
		{[]api.Edit{set("a", num(1)), set(strings.Repeat("x", api.MaxPath+1), many)}, api.ErrEdit},
	}
}

func TestApplyErrors(t *testing.T) { // P1903, P1904: the name's errors; P6 of a; too many edits; edit by edit what it is by itself; what a is; what is refused when it is done
	s := smallSchema()
	for _, a := range states() {
		for _, c := range wrongEdits() {
			want := c.e
			if a.unread {
				want = a.e
			}
			refuses(t, s, "p.M", a.v, want, c.l...)
		}
		// Edits that are right by themselves.
		for _, c := range []given{{[]api.Edit{drop("b")}, api.ErrBase}, {[]api.Edit{set("a", nested(199, num(0)))}, api.ErrType}, {[]api.Edit{splice("c", 9, 9)}, api.ErrBase}, {nil, api.OK}, {[]api.Edit{set("a", num(3))}, api.OK}} {
			want := c.e
			if a.e != api.OK {
				want = a.e
			}
			if want != api.OK {
				refuses(t, s, "p.M", a.v, want, c.l...)
			} else if _, e := diff.Apply(s, "p.M", a.v, c.l); e != api.OK {
				t.Errorf("P1903: Apply(%s, %s): %v", short(a.v), shortEdits(c.l), e)
			}
		}
	}
	for name, e := range names {
		for _, c := range wrongEdits() {
			refuses(t, s, name, msg(), e, c.l...)
		}
		refuses(t, s, name, crowd(), e)
		refuses(t, s, name, msg(), e)
	}
}

func TestRings(t *testing.T) { // P1, P6: trees and values that lead back into themselves
	s := smallSchema()
	fields := make([]api.Entry, 1)
	fields[0] = at(7, api.Value{Kind: api.VMessage, Fields: fields})
	ring := fields[0].Value
	l := make([]api.Value, 1)
	l[0] = list(l...)
	treesRefuse(t, s, "p.M", ring, msg(), api.ErrLong)
	treesRefuse(t, s, "p.M", msg(), ring, api.ErrLong)
	treesRefuse(t, s, "p.M", one(1, num(0)), l[0], api.ErrLong)
	refuses(t, s, "p.M", ring, api.ErrLong)
	refuses(t, s, "p.M", msg(), api.ErrLong, set("g", ring))
	refuses(t, s, "p.M", msg(), api.ErrLong, splice("c", 0, 0, num(1), l[0]))
	refuses(t, s, "p.M", msg(), api.ErrEdit, api.Edit{Kind: api.EClear, Path: "a", Values: l})
}
