package tree_test

import (
	"fmt"
	"math"
	"slices"
	"testing"

	"sigil/api"
	"sigil/bind"
)

// place is a way to put a message W somewhere into a tree of type W, and the trail to it.
type place struct {
	at  []int
	put func(api.Value) api.Value
}

// places are ways of all kinds, some with right values ahead and behind.
func places() []place {
	in := func(number int, wrap func(api.Value) api.Value, l ...int) place {
		return place{append(trail(number), l...), func(v api.Value) api.Value { return one(number, wrap(v)) }}
	}
	same := func(v api.Value) api.Value { return v }
	return []place{
		{nil, same},
		in(api.TMessage, same),
		in(optional+api.TMessage, same),
		in(member+api.TMessage, same),
		in(repeated+api.TMessage, func(v api.Value) api.Value { return list(v) }, 0),
		in(repeated+api.TMessage, func(v api.Value) api.Value { return list(msg(), one(1, num(5)), v, msg()) }, 2),
		in(mapped+api.TMessage, func(v api.Value) api.Value { return dict(kv("", v)) }, 0, 2),
		in(mapped+api.TMessage, func(v api.Value) api.Value {
			return dict(kv("a", msg()), kv("b", one(1, num(5))), kv("c", v), kv("d", msg()))
		}, 2, 2),
		in(ofV, func(v api.Value) api.Value { return msg(at(1, num(1)), at(2, v)) }, 2),
		in(listV, func(v api.Value) api.Value { return list(one(1, num(1)), one(2, v)) }, 1, 2),
		in(mapV, func(v api.Value) api.Value { return dict(pair(num(-1), one(2, v))) }, 0, 2, 2),
		{times(3, repeated+api.TMessage, 0, api.TMessage), func(v api.Value) api.Value {
			for range 3 {
				v = one(repeated+api.TMessage, list(one(api.TMessage, v)))
			}
			return v
		}},
	}
}

// everywhere looks at a message W at the top and within others: what is said of it, with the trail ahead.
func everywhere(t *testing.T, s *bind.Schema, v api.Value, loose, strict answer) {
	t.Helper()
	for _, p := range places() {
		moved := func(a answer) answer {
			if a.e == api.OK {
				return a
			}
			return answer{a.e, joined(p.at, a.at)}
		}
		check(t, s, "w.W", p.put(v), moved(loose), moved(strict))
	}
}

// holder is where one value of a type can stand in a message W: its entry and the trail to it.
type holder struct {
	entry func(api.Value) api.Entry
	at    []int
}

// holders are all the places where a value of a type can stand.
func holders(typ int) []holder {
	as := func(number int, wrap func(api.Value) api.Value, l ...int) holder {
		return holder{func(v api.Value) api.Entry { return at(number, wrap(v)) }, append(trail(number), l...)}
	}
	same := func(v api.Value) api.Value { return v }
	l := []holder{
		as(single+typ, same), as(optional+typ, same), as(member+typ, same),
		as(repeated+typ, func(v api.Value) api.Value { return list(v) }, 0),
		as(mapped+typ, func(v api.Value) api.Value { return dict(kv("k", v)) }, 0, 2),
	}
	if slices.Contains(keyTypes, typ) {
		l = append(l, as(keyed+typ, func(v api.Value) api.Value { return dict(pair(v, num(1))) }, 0, 1))
	}
	return l
}

// fits looks at a value of a type wherever it can stand.
func fits(t *testing.T, s *bind.Schema, typ int, v api.Value, right bool) {
	t.Helper()
	for _, h := range holders(typ) {
		want := fine()
		if !right {
			want = fault(api.ErrType, h.at...)
		}
		if got := typed(t, s, "w.W", msg(h.entry(v))); !want.is(got.e, got.at) {
			t.Errorf("P802: Typed of %s as %s at %v = %v, want %v", short(v), words[typ], h.at, got, want)
		}
	}
}

func TestNumbers(t *testing.T) { // P10: numbers at the bounds of each type, and one past them
	s := load(t, wide())
	bounds := map[int][2]int{
		api.TFloat: {0, math.MaxUint32}, api.TInt32: {math.MinInt32, math.MaxInt32}, api.TUint32: {0, math.MaxUint32}, api.TSint32: {math.MinInt32, math.MaxInt32},
		api.TFixed32: {0, math.MaxUint32}, api.TSfixed32: {math.MinInt32, math.MaxInt32}, api.TBool: {0, 1}, api.TEnum: {math.MinInt32, math.MaxInt32},
	}
	for typ := api.TDouble; typ <= api.TEnum; typ++ {
		if typ == api.TString || typ == api.TBytes {
			continue
		}
		b, narrow := bounds[typ]
		if !narrow {
			b = [2]int{math.MinInt, math.MaxInt}
		}
		for _, n := range []int{b[0], b[1], 0, 1} {
			fits(t, s, typ, num(n), true)
		}
		if narrow {
			for _, n := range []int{b[0] - 1, b[1] + 1, math.MinInt, math.MaxInt} {
				fits(t, s, typ, num(n), false)
			}
		}
		for _, n := range []int{-1, 2, 7, math.MaxInt32, math.MaxInt32 + 1, math.MaxUint32, math.MaxUint32 + 1, math.MinInt32, math.MinInt32 - 1} {
			fits(t, s, typ, num(n), b[0] <= n && n <= b[1])
		}
	}
}

func TestTexts(t *testing.T) { // P10: texts that are UTF-8 and such that are not
	s := load(t, wide())
	for text8, right := range map[string]bool{
		"": true, "x": true, "\x00": true, "aé": true, "\U0010ffff": true, "\ufffd": true, "\ud7ff\ue000": true,
		"\xff": false, "a\xff": false, "\xc3": false, "\xed\xa0\x80": false, "x\xf4\x90\x80\x80": false, "\xc0\x80": false, "\x80": false, "\xe2\x82": false, "ok\xf8": false,
	} {
		fits(t, s, api.TString, text(text8), right)
		fits(t, s, api.TBytes, text(text8), true)
	}
}

func TestOtherKinds(t *testing.T) { // P802: a value of another kind, wherever it stands
	s := load(t, wide())
	kinds := map[int]int{api.TString: api.VText, api.TBytes: api.VText, api.TMessage: api.VMessage}
	for typ := api.TDouble; typ <= api.TMessage; typ++ {
		kind := kinds[typ]
		if kind == 0 {
			kind = api.VNum
		}
		for _, k := range []int{-1, 0, api.VNum, api.VText, api.VMessage, api.VList, api.VMap, api.VPair, 7, math.MaxInt, math.MinInt} {
			fits(t, s, typ, api.Value{Kind: k}, k == kind)
		}
	}
	for _, k := range []int{-1, 0, api.VNum, api.VText, api.VList, api.VMap, api.VPair, 7} {
		check(t, s, "w.W", api.Value{Kind: k}, fault(api.ErrType), fault(api.ErrType))
	}
	for typ := api.TDouble; typ <= api.TMessage; typ++ {
		for _, k := range []int{-1, 0, api.VNum, api.VText, api.VMessage, api.VList, api.VMap, api.VPair, 7} {
			for _, number := range []int{repeated + typ, mapped + typ} {
				want := fault(api.ErrType, number)
				if k == api.VList && number < mapped || k == api.VMap && number >= mapped {
					want = fine()
				}
				if got := typed(t, s, "w.W", one(number, api.Value{Kind: k})); !want.is(got.e, got.at) {
					t.Errorf("P802: Typed of kind %d at %d = %v, want %v", k, number, got, want)
				}
			}
		}
	}
	for _, k := range []int{-1, 0, api.VNum, api.VText, api.VMessage, api.VList, api.VMap, 7} {
		v := one(mapped+api.TInt32, dict(kv("k", num(1)), api.Value{Kind: k, List: []api.Value{text("l"), num(2)}}))
		everywhere(t, s, v, fault(api.ErrType, mapped+api.TInt32, 1), fault(api.ErrType, mapped+api.TInt32, 1))
	}
}

func TestMoreThanTheKindNames(t *testing.T) { // P802: a value holds something that its kind does not name
	s := load(t, wide())
	right := map[int]api.Value{api.VNum: num(1), api.VText: text("x"), api.VMessage: one(1, num(1)), api.VList: list(num(1)), api.VMap: dict(kv("k", num(1))), api.VPair: kv("k", num(1))}
	// add puts in what other kinds name.
	add := func(v api.Value, what int) api.Value {
		switch what {
		case 0:
			v.Num = 5
		case 1:
			v.Num = -1
		case 2:
			v.Text = "y"
		case 3:
			v.List = []api.Value{{}}
		case 4:
			v.Fields = []api.Entry{{}}
		}
		return v
	}
	named := map[int][]int{api.VNum: {0, 1}, api.VText: {2}, api.VMessage: {4}, api.VList: {3}, api.VMap: {3}, api.VPair: {3}}
	for kind, v := range right {
		for what := range 5 {
			if slices.Contains(named[kind], what) {
				continue
			}
			full := add(v, what)
			zero := add(api.Value{Kind: kind}, what)
			for _, bad := range []api.Value{full, zero} {
				moreThanNamed(t, s, kind, bad)
			}
		}
	}
}

// moreThanNamed looks at such a value where one of its kind stands.
func moreThanNamed(t *testing.T, s *bind.Schema, kind int, bad api.Value) {
	t.Helper()
	switch kind {
	case api.VNum:
		fits(t, s, api.TInt32, bad, false)
		fits(t, s, api.TDouble, bad, false)
		fits(t, s, api.TEnum, bad, false)
	case api.VText:
		fits(t, s, api.TString, bad, false)
		fits(t, s, api.TBytes, bad, false)
	case api.VMessage:
		everywhere(t, s, bad, fault(api.ErrType), fault(api.ErrType))
		fits(t, s, api.TMessage, bad, false)
	case api.VList:
		everywhere(t, s, one(repeated+api.TInt32, bad), fault(api.ErrType, repeated+api.TInt32), fault(api.ErrType, repeated+api.TInt32))
	case api.VMap:
		everywhere(t, s, one(mapped+api.TInt32, bad), fault(api.ErrType, mapped+api.TInt32), fault(api.ErrType, mapped+api.TInt32))
	case api.VPair:
		everywhere(t, s, one(mapped+api.TInt32, dict(bad)), fault(api.ErrType, mapped+api.TInt32, 0), fault(api.ErrType, mapped+api.TInt32, 0))
	}
}

func TestPairs(t *testing.T) { // P802: pairs that have not just two values
	s := load(t, wide())
	for _, bad := range []api.Value{pair(), pair(text("k")), pair(text("k"), num(1), num(1)), pair(text("k"), num(1), text("k"), num(1)), pair(msg()), pair(num(1), num(2), msg())} {
		everywhere(t, s, one(mapped+api.TInt32, dict(bad)), fault(api.ErrType, mapped+api.TInt32, 0), fault(api.ErrType, mapped+api.TInt32, 0))
		everywhere(t, s, one(mapped+api.TInt32, dict(kv("a", num(0)), bad)), fault(api.ErrType, mapped+api.TInt32, 1), fault(api.ErrType, mapped+api.TInt32, 1))
	}
}

func TestUnknownFields(t *testing.T) { // P802: entries of numbers that the message has not: their values are not looked at
	s := load(t, wide())
	for _, number := range []int{0, -1, 18, 38, 58, 118, 122, far - 1, far + 1, math.MaxInt, math.MinInt, 19000} {
		for _, v := range []api.Value{num(0), {}, {Kind: 99, Num: 1, Text: "\xff", List: []api.Value{{}}, Fields: []api.Entry{{}}}, one(18, num(0))} {
			everywhere(t, s, one(number, v), fault(api.ErrType, number), fault(api.ErrType, number))
			everywhere(t, s, msg(at(1, num(1)), at(number, v)), fault(api.ErrType, number), fault(api.ErrType, number))
		}
	}
	// What V has W need not have, and the other way round.
	everywhere(t, s, one(ofV, one(2, msg())), fine(), fine())
	everywhere(t, s, one(ofV, one(3, num(1))), fault(api.ErrType, ofV, 3), fault(api.ErrType, ofV, 3))
	everywhere(t, s, one(listV, list(msg(), one(ofV, msg()))), fault(api.ErrType, listV, 1, ofV), fault(api.ErrType, listV, 1, ofV))
	check(t, s, "w.V", one(api.TString, text("")), fault(api.ErrType, api.TString), fault(api.ErrType, api.TString))
	check(t, s, "w.V", one(2, one(api.TString, text("x"))), fine(), fine())
}

func TestTwiceInAnyOrder(t *testing.T) { // P10: one number may stand there more than once, in any order
	s := load(t, wide())
	v := msg(at(repeated+1, list()), at(1, num(0)), at(repeated+1, list(num(1))), at(1, num(9)), at(member+1, num(1)), at(member+2, num(1)), at(member+1, num(1)))
	if got := typed(t, s, "w.W", v); got.e != api.OK {
		t.Errorf("P10: Typed answers %v", got)
	}
}

// wrongs are entries of W with one wrong value each, and where it is; in the order of the walk within an entry: what is told of one of them is not changed by what stands behind it.
func wrongs() []reason {
	bad := func(e api.Entry, l ...int) reason { return reason{e, fault(api.ErrType, l...)} }
	return []reason{
		bad(at(18, num(0)), 18),
		bad(at(1, text("x")), 1),
		bad(at(api.TBool, num(2)), api.TBool),
		bad(at(api.TString, text("\xff")), api.TString),
		bad(at(api.TMessage, api.Value{Kind: api.VMessage, Num: 1}), api.TMessage),
		bad(at(repeated+3, list(num(1), text(""), num(math.MaxInt))), repeated+3, 1),
		bad(at(repeated+api.TMessage, list(one(18, num(0)), num(1))), repeated+api.TMessage, 0, 18),
		bad(at(repeated+3, dict()), repeated+3),
		bad(at(mapped+3, dict(kv("\xff", text("x")), num(1))), mapped+3, 0, 1),
		bad(at(mapped+3, dict(kv("k", text("x")), pair())), mapped+3, 0, 2),
		bad(at(mapped+3, dict(kv("k", num(1)), pair(), kv("\xff", num(1)))), mapped+3, 1),
		bad(at(mapped+3, dict(kv("k", num(1)), pair(num(1), text("x")))), mapped+3, 1, 1),
		bad(at(mapped+api.TMessage, dict(kv("k", msg(at(1, num(0)), at(2, num(-1)), at(0, num(1)))), num(1))), mapped+api.TMessage, 0, 2, 2),
		bad(at(mapV, dict(pair(num(0), msg()), pair(num(1), one(2, one(19, num(1)))))), mapV, 1, 2, 2, 19),
	}
}

func TestFirstWrong(t *testing.T) { // P802: of two wrong values the first one in the walk
	s := load(t, wide())
	for i, first := range wrongs() {
		everywhere(t, s, msg(first.entry), first.answer, first.answer)
		for j, second := range wrongs() {
			name := fmt.Sprint(i, " ahead of ", j)
			v := msg(at(1, num(0)), first.entry, at(2, num(0)), second.entry)
			for _, got := range []answer{typed(t, s, "w.W", v), normal(t, s, "w.W", v)} {
				if !first.answer.is(got.e, got.at) {
					t.Errorf("P802: %s: %v, want %v", name, got, first.answer)
				}
			}
			// In two messages of a list, and of a map.
			v = one(repeated+api.TMessage, list(msg(first.entry), msg(second.entry)))
			if got, want := typed(t, s, "w.W", v), joined(trail(repeated+api.TMessage, 0), first.answer.at); !slices.Equal(got.at, want) || got.e != api.ErrType {
				t.Errorf("P802: %s: %v, want %v", name, got, want)
			}
			v = one(mapped+api.TMessage, dict(kv("z", msg(first.entry)), kv("a", msg(second.entry))))
			if got, want := normal(t, s, "w.W", v), joined(trail(mapped+api.TMessage, 0, 2), first.answer.at); !slices.Equal(got.at, want) || got.e != api.ErrType {
				t.Errorf("P802: %s: %v, want %v", name, got, want)
			}
		}
	}
}

func TestValueAheadOfParts(t *testing.T) { // P802: a value itself comes ahead of its parts, a pair ahead of its key, the key ahead of the value
	s := load(t, wide())
	for _, c := range []struct {
		v    api.Value
		want answer
	}{
		{api.Value{Kind: api.VMessage, Text: "x", Fields: []api.Entry{at(18, num(0))}}, fault(api.ErrType)},
		{api.Value{Kind: api.VNum, Fields: []api.Entry{at(18, num(0))}}, fault(api.ErrType)},
		{one(repeated+3, api.Value{Kind: api.VList, Num: 1, List: []api.Value{text("x")}}), fault(api.ErrType, repeated+3)},
		{one(mapped+3, api.Value{Kind: api.VMap, Text: "1", List: []api.Value{text("x")}}), fault(api.ErrType, mapped+3)},
		{one(mapped+3, dict(api.Value{Kind: api.VPair, Num: 1, List: []api.Value{num(1), text("x")}})), fault(api.ErrType, mapped+3, 0)},
		{one(mapped+3, dict(pair(num(1), text("x")))), fault(api.ErrType, mapped+3, 0, 1)},
		{one(mapped+3, dict(pair(text("\xff"), text("x")))), fault(api.ErrType, mapped+3, 0, 1)},
		{one(mapped+3, dict(pair(text("1"), text("x")))), fault(api.ErrType, mapped+3, 0, 2)},
		{one(keyed+api.TBool, dict(pair(num(2), text("x")))), fault(api.ErrType, keyed+api.TBool, 0, 1)},
	} {
		check(t, s, "w.W", c.v, c.want, c.want)
	}
}
