package tree_test

import (
	"math"
	"testing"

	"sigil/api"
	"sigil/tree"
)

func TestLastEntries(t *testing.T) { // P804: of the entries with one number the last one stays, whole
	s := load(t, wide())
	for _, c := range []struct{ v, want api.Value }{
		{msg(), msg()},
		{msg(at(2, num(7)), at(1, num(8))), msg(at(1, num(8)), at(2, num(7)))},
		{msg(at(1, num(1)), at(1, num(2)), at(1, num(3))), one(1, num(3))},
		{msg(at(1, num(1)), at(2, num(5)), at(1, num(2)), at(2, num(6)), at(1, num(3))), msg(at(1, num(3)), at(2, num(6)))},
		{msg(at(1, num(1)), at(1, num(0))), msg()},
		{msg(at(1, num(0)), at(1, num(1))), one(1, num(1))},
		{msg(at(optional+1, num(1)), at(optional+1, num(0))), one(optional+1, num(0))},
		{msg(at(repeated+1, list(num(1), num(2))), at(repeated+1, list(num(0)))), one(repeated+1, list(num(0)))},
		{msg(at(repeated+1, list(num(1), num(2))), at(repeated+1, list())), msg()},
		{msg(at(mapped+1, dict(kv("a", num(1)))), at(mapped+1, dict(kv("b", num(2))))), one(mapped+1, dict(kv("b", num(2))))},
		{msg(at(mapped+1, dict(kv("a", num(1)))), at(mapped+1, dict())), msg()},
		{msg(at(api.TMessage, msg(at(1, num(1)), at(2, num(2)))), at(api.TMessage, one(1, num(5)))), one(api.TMessage, one(1, num(5)))},
		{msg(at(api.TMessage, one(1, num(1))), at(api.TMessage, msg())), one(api.TMessage, msg())},
		{msg(at(far, num(1)), at(1, num(1)), at(ofV, msg()), at(far, num(2))), msg(at(1, num(1)), at(ofV, msg()), at(far, num(2)))},
	} {
		meant(t, s, "w.W", c.v, c.want)
	}
}

func TestLastMembers(t *testing.T) { // P804: of the members of one oneof the one whose last entry stood last
	s := load(t, wide())
	for _, c := range []struct{ v, want api.Value }{
		{msg(at(member+1, num(1)), at(member+2, num(2))), one(member+2, num(2))},
		{msg(at(member+2, num(2)), at(member+1, num(1))), one(member+1, num(1))},
		{msg(at(member+1, num(1)), at(member+2, num(2)), at(member+1, num(3))), one(member+1, num(3))},
		{msg(at(member+1, num(1)), at(member+1, num(3)), at(member+2, num(2))), one(member+2, num(2))},
		{msg(at(member+1, num(1)), at(member+2, num(0))), one(member+2, num(0))},
		{msg(at(member+1, num(0)), at(member+api.TString, text(""))), one(member+api.TString, text(""))},
		{msg(at(member+api.TMessage, one(1, num(1))), at(member+2, num(2)), at(member+api.TMessage, one(2, num(2)))), one(member+api.TMessage, one(2, num(2)))},
		// The members of another oneof are nothing to it, nor fields whose number is like its place.
		{msg(at(otherA, num(0)), at(member+1, num(1)), at(otherB, text("")), at(member+2, num(2)), at(1, num(1)), at(2, num(2))), msg(at(1, num(1)), at(2, num(2)), at(otherB, text("")), at(member+2, num(2)))},
		{msg(at(member+2, num(2)), at(otherM, msg()), at(otherA, num(1)), at(member+1, num(1))), msg(at(member+1, num(1)), at(otherA, num(1)))},
		{msg(at(otherA, num(1)), at(member+1, num(5)), at(otherA, num(2)), at(otherM, msg()), at(otherA, num(3))), msg(at(member+1, num(5)), at(otherA, num(3)))},
		// Within others likewise.
		{one(repeated+api.TMessage, list(msg(at(member+2, num(2)), at(member+1, num(1))), one(member+2, num(0)))), one(repeated+api.TMessage, list(one(member+1, num(1)), one(member+2, num(0))))},
	} {
		meant(t, s, "w.W", c.v, c.want)
	}
}

func TestLastPairs(t *testing.T) { // P804: of the pairs with one key the last one, whole; in the order of keys
	s := load(t, wide())
	for _, c := range []struct{ v, want api.Value }{
		{dict(kv("b", num(1)), kv("a", num(2))), dict(kv("a", num(2)), kv("b", num(1)))},
		{dict(kv("a", num(1)), kv("a", num(2)), kv("a", num(0))), dict(kv("a", num(0)))},
		{dict(kv("b", num(1)), kv("a", num(2)), kv("b", num(3)), kv("", num(4)), kv("a", num(5)), kv("a\x00", num(6))), dict(kv("", num(4)), kv("a", num(5)), kv("a\x00", num(6)), kv("b", num(3)))},
	} {
		meant(t, s, "w.W", one(mapped+3, c.v), one(mapped+3, c.want))
	}
	meant(t, s, "w.W", one(keyed+api.TUint64, dict(pair(num(-1), num(1)), pair(num(math.MaxInt), num(2)), pair(num(math.MinInt), num(3)), pair(num(0), num(4)), pair(num(-1), num(5)))),
		one(keyed+api.TUint64, dict(pair(num(0), num(4)), pair(num(math.MaxInt), num(2)), pair(num(math.MinInt), num(3)), pair(num(-1), num(5)))))
	meant(t, s, "w.W", one(keyed+api.TInt64, dict(pair(num(0), num(1)), pair(num(math.MaxInt), num(2)), pair(num(math.MinInt), num(3)), pair(num(-1), num(5)))),
		one(keyed+api.TInt64, dict(pair(num(math.MinInt), num(3)), pair(num(-1), num(5)), pair(num(0), num(1)), pair(num(math.MaxInt), num(2)))))
	meant(t, s, "w.W", one(keyed+api.TBool, dict(pair(num(1), num(1)), pair(num(0), num(2)), pair(num(1), num(3)))), one(keyed+api.TBool, dict(pair(num(0), num(2)), pair(num(1), num(3)))))
	// The messages in pairs are not merged, and what stays is normalised within.
	meant(t, s, "w.W", one(mapped+api.TMessage, dict(kv("a", one(1, num(1))), kv("a", msg(at(2, num(2)), at(3, num(0)), at(2, num(3)))))), one(mapped+api.TMessage, dict(kv("a", one(2, num(3))))))
	var many, few []api.Value
	for i := range 2000 {
		many = append(many, pair(num((i*7919)%500), num(i)))
	}
	for k := range 500 {
		for _, p := range many {
			if p.List[0].Num == k && (len(few) == k || p.List[1].Num > few[k].List[1].Num) {
				few = append(few[:k], p)
			}
		}
	}
	meant(t, s, "w.W", one(keyed+api.TUint32, dict(many...)), one(keyed+api.TUint32, dict(few...)))
}

func TestWhatGoes(t *testing.T) { // P804: implicit zeros and what is empty go, at the top and within; all else stays
	s := load(t, wide())
	var all, stay []api.Entry
	for typ := api.TDouble; typ <= api.TMessage; typ++ {
		all = append(all, at(single+typ, zeroOf(typ)), at(repeated+typ, list()), at(mapped+typ, dict()), at(optional+typ, zeroOf(typ)))
	}
	stay = append(stay, at(api.TMessage, msg()))
	for typ := api.TDouble; typ <= api.TMessage; typ++ {
		stay = append(stay, at(optional+typ, zeroOf(typ)))
	}
	for _, key := range keyTypes {
		all = append(all, at(keyed+key, dict()))
	}
	for _, p := range places() {
		meant(t, s, "w.W", p.put(msg(all...)), p.put(msg(stay...)))
	}
	for typ := api.TDouble; typ <= api.TMessage; typ++ {
		zero, some := zeroOf(typ), someOf(typ)
		meant(t, s, "w.W", one(repeated+typ, list(zero, some, zero)), one(repeated+typ, list(zero, some, zero)))
		meant(t, s, "w.W", one(mapped+typ, dict(kv("b", some), kv("a", zero))), one(mapped+typ, dict(kv("a", zero), kv("b", some))))
		meant(t, s, "w.W", one(member+typ, zero), one(member+typ, zero))
		meant(t, s, "w.W", one(single+typ, some), one(single+typ, some))
	}
	// Lists keep their order, and what is alike in them.
	meant(t, s, "w.W", one(repeated+3, list(num(3), num(1), num(1), num(-2), num(3))), one(repeated+3, list(num(3), num(1), num(1), num(-2), num(3))))
}

func TestOfWhatGoes(t *testing.T) { // P804: what goes must be typed and not too deep, too
	s := load(t, wide())
	for _, c := range []struct {
		v    api.Value
		want answer
	}{
		{msg(at(1, text("")), at(1, num(1))), fault(api.ErrType, 1)},
		{msg(at(member+1, text("")), at(member+2, num(1))), fault(api.ErrType, member+1)},
		{one(mapped+3, dict(kv("a", text("")), kv("a", num(1)))), fault(api.ErrType, mapped+3, 0, 2)},
		{msg(at(api.TMessage, chain(64, api.TMessage, msg())), at(api.TMessage, msg())), fault(api.ErrDepth, times(64, api.TMessage)...)},
	} {
		if got := normalise(t, s, "w.W", c.v); !c.want.is(got.e, got.at) {
			t.Errorf("P804: Normalise(%s) = %v, want %v", short(c.v), got, c.want)
		}
	}
	meant(t, s, "w.W", chain(63, api.TMessage, one(1, num(0))), chain(63, api.TMessage, msg()))
}

func TestManyEntries(t *testing.T) { // P804: a message of as many entries as there may be
	s := load(t, wide())
	l := make([]api.Entry, api.MaxValues-1)
	for i := range l {
		l[i] = at(3+i%2, num(i%1000))
	}
	v, trail, e := tree.Normalise(s, "w.W", msg(l...))
	if e != api.OK || len(trail) > 0 || !same(v, msg(at(3, l[len(l)-1].Value), at(4, l[len(l)-2].Value))) {
		t.Errorf("P804: Normalise of MaxValues values = %s, %v, %v", short(v), trail, e)
	}
}
