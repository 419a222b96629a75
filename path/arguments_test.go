package path_test

import (
	"strings"
	"testing"

	"sigil/api"
	"sigil/bind"
	"sigil/path"
)

// argument is one that may be handed in, with the error that it has by itself, and where in the order of looks that is found. Without an error it is right.
type argument[T any] struct {
	what T
	e    api.Errno
	look int
}

// The looks, in their order.
const (
	atName = iota + 1
	atTree
	atLong
	atValue
	atContent
	atPath
	behindAll
)

// names, trees, paths, masks and values are the arguments of the calls, right ones and wrong ones, for the small schema.
func names() []argument[string] {
	return []argument[string]{
		{what: "p.M"},
		{"p.N", api.ErrName, atName},
		{"", api.ErrName, atName},
		{strings.Repeat("p", api.MaxName), api.ErrName, atName},
		{strings.Repeat("p", api.MaxName+1), api.ErrLong, atName},
	}
}

func trees() []argument[api.Value] {
	deep := chain(64, 7, msg())
	return []argument[api.Value]{
		{what: example()},
		{nested(200, num(0)), api.ErrDepth, atTree},
		{one(9, nested(199, num(0))), api.ErrDepth, atTree},
		{nested(199, num(0)), api.ErrType, atContent},
		{num(1), api.ErrType, atContent},
		{msg(at(1, num(0)), at(7, deep), at(9, num(1))), api.ErrType, atContent},
		{one(1, num(0)), api.ErrNormal, atContent},
		{msg(at(3, list()), at(7, deep)), api.ErrNormal, atContent},
		{deep, api.ErrDepth, atContent},
	}
}

func paths() []argument[string] {
	return []argument[string]{
		{what: "g.a"},
		{strings.Repeat(".", api.MaxPath+1), api.ErrLong, atLong},
		{strings.Repeat("g.", 511) + "gg", api.ErrLong, atLong},
		{strings.Repeat(".", api.MaxPath), api.ErrStep, atPath},
		{"z.", api.ErrStep, atPath},
		{"a.a", api.ErrInto, atPath},
		{"g.z", api.ErrNoField, atPath},
		{"c[-1]", api.ErrIndex, atPath},
		{"d[0]", api.ErrKeyText, atPath},
	}
}

func masks() []argument[[]string] {
	return []argument[[]string]{
		{what: []string{"a", "", "d.d.c"}},
		{what: nil},
		{make([]string, api.MaxMask+1), api.ErrLong, atLong},
		{[]string{"z", ".", strings.Repeat("x", api.MaxPath+1)}, api.ErrLong, atLong},
		{[]string{strings.Repeat(".", api.MaxPath)}, api.ErrMask, atPath},
		{[]string{"a", "c[0]", "z"}, api.ErrMask, atPath},
		{[]string{"a", "c.a", "."}, api.ErrInto, atPath},
		{[]string{"", "z", "c.a"}, api.ErrNoField, atPath},
	}
}

func values() []argument[api.Value] { // at the path g.a
	return []argument[api.Value]{
		{what: num(3)},
		{nested(200, num(0)), api.ErrDepth, atValue},
		{nested(199, num(0)), api.ErrType, behindAll},
		{msg(), api.ErrType, behindAll},
	}
}

// first tells the error of some arguments that is looked for first.
func first(l ...argument[int]) api.Errno {
	found := argument[int]{}
	for _, a := range l {
		if a.e != api.OK && (found.e == api.OK || a.look < found.look) {
			found = a
		}
	}
	return found.e
}

// bare is what is said of an argument, without what it is.
func bare[T any](a argument[T]) argument[int] { return argument[int]{e: a.e, look: a.look} }

// asked asks all calls with arguments, and looks at their errors.
func asked(t *testing.T, s *bind.Schema, name argument[string], m argument[api.Value], p argument[string], mask argument[[]string], v argument[api.Value]) {
	t.Helper()
	n, of, to := bare(name), bare(m), bare(p)
	if _, _, e := path.Get(s, name.what, m.what, p.what); e != first(n, of, to) {
		t.Errorf("P1306: Get(%.20q, %s, %.20q): %v, want %v", name.what, short(m.what), p.what, e, first(n, of, to))
	}
	if _, e := path.Clear(s, name.what, m.what, p.what); e != first(n, of, to) {
		t.Errorf("P1308: Clear(%.20q, %s, %.20q): %v, want %v", name.what, short(m.what), p.what, e, first(n, of, to))
	}
	if got, e := path.Set(s, name.what, m.what, p.what, v.what); e != first(n, of, to, bare(v)) || e != api.OK && !same(got, api.Value{}) {
		t.Errorf("P1307: Set(%.20q, %s, %.20q, %s): %v, want %v", name.what, short(m.what), p.what, short(v.what), e, first(n, of, to, bare(v)))
	}
	if e := first(n, of, bare(mask)); e != api.OK {
		maskRefuses(t, s, name.what, m.what, e, mask.what...)
	} else if _, e := path.Keep(s, name.what, m.what, mask.what); e != api.OK {
		t.Errorf("P1310: Keep(%.20q): %v", mask.what, e)
	}
	if e := first(n, of); e != api.OK {
		leavesRefuse(t, s, name.what, m.what, e)
		getRefuses(t, s, name.what, m.what, p.what, first(n, of, to))
		clearRefuses(t, s, name.what, m.what, p.what, first(n, of, to))
	}
}

func TestOrderOfLooks(t *testing.T) { // P1306 to P1313, P5: the order in which the calls look at their arguments: all that is wrong with each, with all that is wrong with the others
	s := smallSchema()
	for _, name := range names() {
		for _, m := range trees() {
			for i, p := range paths() {
				for _, v := range values() {
					asked(t, s, name, m, p, masks()[i%len(masks())], v)
				}
			}
			for _, mask := range masks() {
				asked(t, s, name, m, paths()[0], mask, values()[0])
			}
		}
	}
}

// crowd is a normal message of the small schema on which more values hang than may be: most of them share their memory.
func crowd() api.Value {
	l := make([]api.Value, 2047)
	for i := range l {
		l[i] = num(1)
	}
	pairs := make([]api.Value, 2048)
	for i := range pairs {
		pairs[i] = kv(string(rune(1000+i)), one(3, list(l...)))
	}
	return one(4, dict(pairs...))
}

func TestTooManyAmongOthers(t *testing.T) { // P6: trees of too many values, with all that is wrong with the others
	s := smallSchema()
	large := argument[api.Value]{crowd(), api.ErrLong, atTree}
	much := argument[api.Value]{crowd(), api.ErrLong, atValue}
	for i, name := range names() {
		asked(t, s, name, large, paths()[0], masks()[i], much)
		asked(t, s, name, trees()[0], paths()[0], masks()[i], much)
	}
	for i, p := range paths() {
		asked(t, s, names()[0], large, p, masks()[i%len(masks())], values()[0])
		asked(t, s, names()[0], trees()[0], p, masks()[i%len(masks())], much)
	}
	for _, m := range trees() {
		asked(t, s, names()[0], m, paths()[0], masks()[0], much)
	}
	for _, v := range values() {
		asked(t, s, names()[0], large, paths()[0], masks()[0], v)
	}
	// Too many goes ahead of too deep and of what is untyped.
	for _, wrong := range []api.Entry{at(9, num(1)), at(1, nested(200, num(1))), at(1, num(0))} {
		large.what.Fields = append([]api.Entry{wrong}, crowd().Fields...)
		asked(t, s, names()[0], large, paths()[1], masks()[2], argument[api.Value]{large.what, api.ErrLong, atValue})
	}
}

func TestOwnErrorsAreLast(t *testing.T) { // P1306 to P1308, P1313: what a call says of what stands there comes behind all looks at the arguments
	s := smallSchema()
	for _, m := range trees()[1:] {
		for _, p := range []string{"b", "c[9]", "g.g.g"} { // nothing stands there
			getRefuses(t, s, "p.M", m.what, p, m.e)
			clearRefuses(t, s, "p.M", m.what, p, m.e)
		}
		setRefuses(t, s, "p.M", m.what, "c[9]", num(1), m.e)
		setRefuses(t, s, "p.M", m.what, "c[9]", text(""), m.e)
		setRefuses(t, s, "p.M", m.what, "g", one(1, num(0)), m.e)
		setRefuses(t, s, "p.M", m.what, "g", chain(64, 7, msg()), m.e)
	}
	for _, p := range paths()[1:] {
		setRefuses(t, s, "p.M", example(), p.what, text("\xff"), p.e)
		setRefuses(t, s, "p.M", example(), p.what, one(1, num(0)), p.e)
	}
	// Of what Set says itself: ErrType, ErrNormal, ErrIndex, ErrDepth.
	deep := func(v api.Value) api.Value { return chain(100, 7, v) }
	l := load(t, `syntax = "proto3"; message M { repeated M l = 1; int32 a = 2; M g = 7; }`)
	for _, c := range []struct {
		p string
		v api.Value
		e api.Errno
	}{
		{"l[1]", deep(one(9, num(0))), api.ErrType}, {"l[1]", deep(one(2, num(0))), api.ErrNormal}, {"l[1]", deep(msg()), api.ErrIndex}, {"l[0]", deep(msg()), api.ErrDepth},
		{"l", list(one(2, num(0)), deep(one(9, num(0)))), api.ErrType}, {"l", list(deep(msg()), one(2, num(0))), api.ErrNormal}, {"l", list(deep(msg()), msg()), api.ErrDepth},
		{"g.l[0].l[1].a", text(""), api.ErrType}, {"g.l[0].l[1].a", num(0), api.ErrIndex}, {"g", deep(one(2, text(""))), api.ErrType}, {"g", deep(one(2, num(0))), api.ErrNormal}, {"g", deep(msg()), api.ErrDepth},
		{"", deep(one(9, num(0))), api.ErrType}, {"", deep(one(2, num(0))), api.ErrNormal}, {"", deep(msg()), api.ErrDepth},
	} {
		setRefuses(t, l, "M", msg(), c.p, c.v, c.e)
	}
}
