package tree_test

import (
	"math"
	"slices"
	"testing"

	"sigil/api"
	"sigil/tree"
)

func TestUnlikeInOneThing(t *testing.T) { // P805: trees that are unlike in one thing alone, at the top and wherever they hang
	val := func(kind, n int, s string, l []api.Value, f []api.Entry) api.Value {
		return api.Value{Kind: kind, Num: n, Text: s, List: l, Fields: f}
	}
	vs := func(l ...api.Value) []api.Value { return l }
	es := func(l ...api.Entry) []api.Entry { return l }
	for _, c := range []struct{ a, b api.Value }{ // each a comes ahead of its b
		{val(0, 0, "", nil, nil), val(1, 0, "", nil, nil)},
		{val(-1, 0, "", nil, nil), val(0, 0, "", nil, nil)},
		{val(math.MinInt, 0, "", nil, nil), val(math.MaxInt, 0, "", nil, nil)},
		{val(1, 5, "", nil, nil), val(2, 0, "", nil, nil)},
		{val(1, 0, "", nil, nil), val(1, 1, "", nil, nil)},
		{val(1, math.MinInt, "", nil, nil), val(1, math.MaxInt, "", nil, nil)},
		{val(1, -1, "", nil, nil), val(1, 0, "", nil, nil)},
		{val(2, 0, "", nil, nil), val(2, 0, "\x00", nil, nil)},
		{val(2, 0, "a", nil, nil), val(2, 0, "aa", nil, nil)},
		{val(2, 0, "ab", nil, nil), val(2, 0, "b", nil, nil)},
		{val(2, 0, "z", nil, nil), val(2, 0, "\xff", nil, nil)},
		{val(4, 0, "", nil, nil), val(4, 0, "", vs(api.Value{}), nil)},
		{val(4, 0, "", vs(num(1)), nil), val(4, 0, "", vs(num(1), api.Value{Kind: -5}), nil)},
		{val(4, 0, "", vs(num(1), num(9)), nil), val(4, 0, "", vs(num(2)), nil)},
		{val(4, 0, "", vs(num(1), num(1)), nil), val(4, 0, "", vs(num(1), num(2)), nil)},
		{val(4, 0, "", vs(num(0), num(2)), nil), val(4, 0, "", vs(num(1), num(1)), nil)},
		{val(3, 0, "", nil, nil), val(3, 0, "", nil, es(at(-9, num(0))))},
		{val(3, 0, "", nil, es(at(1, num(9)))), val(3, 0, "", nil, es(at(2, num(0))))},
		{val(3, 0, "", nil, es(at(-1, num(9)))), val(3, 0, "", nil, es(at(0, num(0))))},
		{val(3, 0, "", nil, es(at(1, num(1)))), val(3, 0, "", nil, es(at(1, num(2))))},
		{val(3, 0, "", nil, es(at(1, num(1)))), val(3, 0, "", nil, es(at(1, num(1)), at(0, num(0))))},
		{val(3, 0, "", nil, es(at(1, num(1)), at(9, num(9)))), val(3, 0, "", nil, es(at(2, num(0))))},
		{val(3, 0, "", nil, es(at(1, num(1)), at(2, num(0)))), val(3, 0, "", nil, es(at(1, num(2)), at(1, num(0))))},
		{val(3, 0, "", nil, es(at(1, num(1)), at(2, num(0)))), val(3, 0, "", nil, es(at(1, num(1)), at(3, num(0))))},
	} {
		for levels := range 4 {
			a, b := c.a, c.b
			for i := range levels {
				switch i {
				case 0:
					a, b = list(num(1), a, num(5)), list(num(1), b, num(1))
				case 1:
					a, b = msg(at(1, a), at(2, num(5))), msg(at(1, b), at(2, num(1)))
				case 2:
					a, b = dict(pair(num(1), a)), dict(pair(num(1), b))
				}
			}
			ordered(t, a, b, -1)
			ordered(t, a, a, 0)
			ordered(t, b, b, 0)
		}
	}
}

func TestWhatComesFirst(t *testing.T) { // P805: Kind goes ahead of Num, Num of Text, Text of List, List of Fields
	parts := func(kind, n int, s string, in, field int) api.Value {
		return api.Value{Kind: kind, Num: n, Text: s, List: []api.Value{num(in)}, Fields: []api.Entry{at(1, num(field))}}
	}
	ordered(t, parts(1, 9, "z", 9, 9), parts(2, 0, "a", 0, 0), -1)
	ordered(t, parts(1, 1, "z", 9, 9), parts(1, 2, "a", 0, 0), -1)
	ordered(t, parts(1, 1, "a", 9, 9), parts(1, 1, "z", 0, 0), -1)
	ordered(t, parts(1, 1, "a", 1, 9), parts(1, 1, "a", 2, 0), -1)
	ordered(t, parts(1, 1, "a", 1, 1), parts(1, 1, "a", 1, 2), -1)
	ordered(t, parts(1, 1, "a", 1, 1), parts(1, 1, "a", 1, 1), 0)
	// A longer list goes ahead of any look at the fields, also where there are none.
	a, b := parts(1, 1, "a", 1, 9), parts(1, 1, "a", 1, 0)
	b.List = append(b.List, num(0))
	ordered(t, a, b, -1)
	a.Fields = nil
	ordered(t, a, b, -1)
	b.Fields = nil
	ordered(t, a, b, -1)
	a.Fields = parts(1, 1, "a", 1, 9).Fields
	ordered(t, a, b, -1)
	// Of an entry the number goes ahead of the value, of one ahead of the next.
	ordered(t, msg(at(1, num(9)), at(1, num(9))), msg(at(2, num(0)), at(0, num(0))), -1)
	ordered(t, msg(at(1, num(1)), at(9, num(9))), msg(at(1, num(2)), at(0, num(0))), -1)
}

func TestNilAndEmpty(t *testing.T) { // P2: nil and empty lists are the same
	a := api.Value{Kind: api.VMessage}
	b := api.Value{Kind: api.VMessage, List: []api.Value{}, Fields: []api.Entry{}}
	ordered(t, a, b, 0)
	ordered(t, list(a), list(b), 0)
	keys(t, api.TMessage, a, b, 0)
	s := load(t, small)
	check(t, s, "p.M", b, fine(), fine())
	meant(t, s, "p.M", b, a)
	check(t, s, "p.M", one(1, api.Value{Kind: api.VNum, Num: 1, List: []api.Value{}, Fields: []api.Entry{}}), fine(), fine())
	check(t, s, "p.M", one(3, api.Value{Kind: api.VList, List: []api.Value{}}), fine(), fault(api.ErrNormal, 3))
}

func TestKeysOfNumbers(t *testing.T) { // P806: of numeric types by Num, of two of them without a sign, and nothing else is looked at
	l := []int{math.MinInt, -4294967296, math.MinInt32, -2, -1, 0, 1, 2, math.MaxInt32, math.MaxUint32, math.MaxInt}
	huge := []api.Value{{}}
	huge[0].List = huge // endless
	for typ := api.TDouble; typ <= api.TEnum; typ++ {
		if typ == api.TString || typ == api.TBytes {
			continue
		}
		for _, x := range l {
			for _, y := range l {
				want := slices.Index(l, x) - slices.Index(l, y)
				if (typ == api.TUint64 || typ == api.TFixed64) && (x < 0) != (y < 0) {
					want = -want
				}
				want = max(-1, min(1, want))
				keys(t, typ, num(x), num(y), want)
				keys(t, typ, api.Value{Kind: 7, Num: x, Text: "z", List: huge}, api.Value{Kind: 3, Num: y, Text: "a", Fields: []api.Entry{at(1, nested(300, num(1)))}}, want)
			}
		}
	}
}

func TestKeysOfTexts(t *testing.T) { // P806: of TString by Text, and nothing else is looked at
	l := []string{"", "\x00", "a", "a\x00", "aa", "b", "z", "é", "\x80", "\xff"}
	slices.Sort(l)
	huge := []api.Value{{}}
	huge[0].List = huge
	for i, x := range l {
		for j, y := range l {
			want := max(-1, min(1, i-j))
			keys(t, api.TString, text(x), text(y), want)
			keys(t, api.TString, api.Value{Kind: 9, Num: 5, Text: x, List: huge}, api.Value{Kind: 1, Num: -5, Text: y, List: []api.Value{nested(300, num(1))}}, want)
		}
	}
}

func TestKeysOfOthers(t *testing.T) { // P806: of every other type as Compare, with trees that P6 refuses too
	l := []api.Value{{}, num(0), num(1), num(-1), text(""), text("a"), text("b"), msg(), one(1, num(1)), list(num(1)), list(num(2)), nested(300, num(1)), {Kind: -1}, {Num: 1}}
	for _, typ := range []int{api.TBytes, api.TMessage, 0, -1, 18, 99, math.MaxInt, math.MinInt} {
		for _, a := range l {
			for _, b := range l {
				keys(t, typ, a, b, tree.Compare(a, b))
			}
		}
	}
	keys(t, api.TBytes, crowd(), api.Value{}, 0)
	keys(t, api.TMessage, crowd(), num(0), -1)
	keys(t, api.TBytes, nested(300, num(1)), num(0), -1)
	keys(t, api.TMessage, num(5), num(6), -1)
	keys(t, 0, api.Value{Kind: 1, Num: 5}, api.Value{Kind: 2, Num: 4}, -1)
}

func TestRefusedTrees(t *testing.T) { // P805: a tree that P6 refuses is taken as the value with nothing in it
	for _, v := range []api.Value{nested(200, num(1)), chain(200, 7, num(1)), {Kind: 5, Num: 5, Text: "x", List: []api.Value{nested(250, msg())}}} {
		ordered(t, v, nested(777, msg()), 0)
		ordered(t, v, api.Value{}, 0)
		ordered(t, v, num(0), -1)
		ordered(t, v, api.Value{Kind: -1}, 1)
		ordered(t, v, api.Value{Num: 1}, -1)
		ordered(t, v, api.Value{Num: -1}, 1)
		ordered(t, v, api.Value{Text: "a"}, -1)
		ordered(t, v, api.Value{List: []api.Value{{}}}, -1)
		ordered(t, v, api.Value{Fields: []api.Entry{{}}}, -1)
	}
	ordered(t, crowd(), nested(200, num(1)), 0)
	ordered(t, crowd(), num(0), -1)
	ordered(t, crowd(), api.Value{Kind: -1}, 1)
}
