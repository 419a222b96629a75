package tree_test

import (
	"math"
	"testing"

	"sigil/api"
)

// zeroOf is the zero of a type.
func zeroOf(typ int) api.Value {
	switch typ {
	case api.TString, api.TBytes:
		return text("")
	case api.TMessage:
		return msg()
	}
	return num(0)
}

// someOf is a value of a type that is no zero.
func someOf(typ int) api.Value {
	switch typ {
	case api.TString, api.TBytes:
		return text("x")
	case api.TMessage:
		return one(api.TBool, num(1))
	}
	return num(1)
}

// unruly looks at a message W that is typed, and not normal there.
func unruly(t *testing.T, v api.Value, l ...int) {
	t.Helper()
	everywhere(t, load(t, wide()), v, fine(), fault(api.ErrNormal, l...))
}

// ruly looks at one that is normal.
func ruly(t *testing.T, v api.Value) {
	t.Helper()
	everywhere(t, load(t, wide()), v, fine(), fine())
}

func TestZeros(t *testing.T) { // P11: implicit fields hold no zeros, all others may
	for typ := api.TDouble; typ <= api.TMessage; typ++ {
		zero, some := zeroOf(typ), someOf(typ)
		ruly(t, one(single+typ, some))
		if typ == api.TMessage {
			ruly(t, one(single+typ, zero))
		} else {
			unruly(t, one(single+typ, zero), single+typ)
		}
		for _, v := range []api.Value{zero, some} {
			ruly(t, one(optional+typ, v))
			ruly(t, one(member+typ, v))
			ruly(t, one(repeated+typ, list(v)))
			ruly(t, one(repeated+typ, list(v, zero, v, some, zero)))
			ruly(t, one(mapped+typ, dict(kv("", v))))
		}
		unruly(t, one(repeated+typ, list()), repeated+typ)
		unruly(t, one(mapped+typ, dict()), mapped+typ)
	}
	for _, key := range keyTypes {
		ruly(t, one(keyed+key, dict(pair(zeroOf(key), num(0)))))
		unruly(t, one(keyed+key, dict()), keyed+key)
	}
	ruly(t, one(api.TDouble, num(math.MinInt))) // -0 is no zero
	ruly(t, one(api.TFloat, num(1<<31)))
	ruly(t, one(far, num(1)))
	unruly(t, one(far, num(0)), far)
	unruly(t, one(ofV, one(1, num(0))), ofV, 1)
}

func TestRisingNumbers(t *testing.T) { // P11: the fields' numbers rise, each stands once
	ruly(t, msg(at(1, num(1)), at(2, num(1)), at(19, text("")), at(far, num(1))))
	unruly(t, msg(at(1, num(1)), at(1, num(1))), 1)
	unruly(t, msg(at(2, num(1)), at(1, num(1))), 1)
	unruly(t, msg(at(1, num(1)), at(3, num(1)), at(2, num(1)), at(4, num(1))), 2)
	unruly(t, msg(at(api.TMessage, msg()), at(api.TMessage, msg())), api.TMessage)
	unruly(t, msg(at(repeated+1, list(num(1))), at(repeated+1, list(num(1)))), repeated+1)
	unruly(t, msg(at(far, num(1)), at(far, num(1))), far)
	unruly(t, msg(at(1, num(1)), at(far, num(1)), at(2, num(1))), 2)
	// What stands within another message is another row.
	ruly(t, msg(at(5, num(1)), at(api.TMessage, msg(at(2, num(1)), at(api.TMessage, one(1, num(1))))), at(optional+api.TMessage, one(1, num(1)))))
	ruly(t, one(repeated+api.TMessage, list(one(5, num(1)), one(5, num(1)), one(1, num(1)))))
}

func TestOneofs(t *testing.T) { // P11: of each oneof at most one member is there
	ruly(t, msg(at(member+1, num(0)), at(otherA, num(0))))
	ruly(t, msg(at(otherB, text("")), at(member+1, num(0))))
	unruly(t, msg(at(member+1, num(0)), at(member+2, num(0))), member+2)
	unruly(t, msg(at(member+1, num(0)), at(member+api.TMessage, msg())), member+api.TMessage)
	unruly(t, msg(at(otherB, text("")), at(optional+1, num(0)), at(otherM, msg()), at(member+1, num(0))), otherM)
	unruly(t, msg(at(otherB, text("")), at(member+1, num(0)), at(otherA, num(1))), otherA)
	unruly(t, msg(at(otherB, text("")), at(member+1, num(0)), at(member+3, num(0)), at(otherA, num(1))), member+3)
	// What stands within another message has members of its own.
	ruly(t, msg(at(otherM, msg(at(otherM, msg()), at(member+1, num(0)))), at(member+2, num(0))))
	ruly(t, one(repeated+api.TMessage, list(one(member+1, num(1)), one(member+2, num(1)))))
}

func TestRisingKeys(t *testing.T) { // P11: the pairs rise by their keys, none twice
	rising := map[int][]api.Value{
		api.TInt32: {num(math.MinInt32), num(-1), num(0), num(1), num(math.MaxInt32)}, api.TSint32: {num(math.MinInt32), num(-1), num(0), num(1), num(math.MaxInt32)},
		api.TSfixed32: {num(math.MinInt32), num(-1), num(0), num(1), num(math.MaxInt32)}, api.TInt64: {num(math.MinInt), num(-1), num(0), num(1), num(math.MaxInt)},
		api.TSint64: {num(math.MinInt), num(-1), num(0), num(1), num(math.MaxInt)}, api.TSfixed64: {num(math.MinInt), num(-1), num(0), num(1), num(math.MaxInt)},
		api.TUint32: {num(0), num(1), num(math.MaxInt32), num(math.MaxUint32)}, api.TFixed32: {num(0), num(1), num(math.MaxInt32), num(math.MaxUint32)},
		api.TUint64: {num(0), num(1), num(math.MaxInt), num(math.MinInt), num(-1)}, api.TFixed64: {num(0), num(1), num(math.MaxInt), num(math.MinInt), num(-1)},
		api.TBool: {num(0), num(1)}, api.TString: {text(""), text("\x00"), text("a"), text("a\x00"), text("aa"), text("b"), text("é"), text("\U0010ffff")},
	}
	s := load(t, wide())
	for _, key := range keyTypes {
		l := rising[key]
		var all []api.Value
		for i, k := range l {
			all = append(all, pair(k, num(i)))
			for j, other := range l {
				v := one(keyed+key, dict(pair(k, num(0)), pair(other, num(1))))
				if want := i < j; want {
					check(t, s, "w.W", v, fine(), fine())
				} else {
					check(t, s, "w.W", v, fine(), fault(api.ErrNormal, keyed+key, 1))
				}
			}
		}
		ruly(t, one(keyed+key, dict(all...)))
		last := len(all)
		unruly(t, one(keyed+key, dict(append(all, all[last-1])...)), keyed+key, last)
		unruly(t, one(keyed+key, dict(append(all, all[0], all[0])...)), keyed+key, last)
	}
	// Maps beside one another and within one another are rows of their own.
	ruly(t, msg(at(mapped+3, dict(kv("b", num(1)))), at(mapped+api.TMessage, dict(kv("b", one(mapped+3, dict(kv("a", num(1))))), kv("c", one(mapped+3, dict(kv("a", num(1)))))))))
	unruly(t, one(mapped+api.TMessage, dict(kv("b", msg()), kv("c", one(mapped+3, dict(kv("z", num(1)), kv("z", num(1))))), kv("a", msg()))), mapped+api.TMessage, 1, 2, mapped+3, 1)
	// A pair's value has no part in the order.
	unruly(t, one(mapped+3, dict(kv("a", num(1)), kv("a", num(2)))), mapped+3, 1)
	ruly(t, one(mapped+3, dict(kv("a", num(9)), kv("b", num(2)), kv("c", num(2)))))
}

// disorders are entries of W with one thing each that is not normal; of each the first place within its entry.
func disorders() []reason {
	not := func(e api.Entry, l ...int) reason { return reason{e, fault(api.ErrNormal, l...)} }
	return []reason{
		not(at(3, num(0)), 3),
		not(at(api.TString, text("")), api.TString),
		not(at(api.TMessage, msg(at(2, num(1)), at(1, num(1)), at(3, num(0)))), api.TMessage, 1),
		not(at(optional+api.TMessage, msg(at(member+1, num(1)), at(member+2, num(1)), at(member+3, num(1)))), optional+api.TMessage, member+2),
		not(at(repeated+3, list()), repeated+3),
		not(at(repeated+api.TMessage, list(msg(), one(1, num(0)), one(2, num(0)))), repeated+api.TMessage, 1, 1),
		not(at(mapped+3, dict()), mapped+3),
		not(at(mapped+api.TMessage, dict(kv("b", one(1, num(0))), kv("a", one(2, num(0))))), mapped+api.TMessage, 0, 2, 1),
		not(at(mapped+api.TMessage, dict(kv("b", msg()), kv("a", one(2, num(0))))), mapped+api.TMessage, 1),
		not(at(keyed+api.TUint64, dict(pair(num(-1), num(0)), pair(num(1), num(0)), pair(num(0), num(0)))), keyed+api.TUint64, 1),
		not(at(ofV, one(2, one(ofV, one(1, num(0))))), ofV, 2, ofV, 1),
	}
}

func TestFirstDisorder(t *testing.T) { // P802: of two things that are not normal the first one in the walk; a wrong value anywhere goes ahead
	s := load(t, wide())
	for i, first := range disorders() {
		everywhere(t, s, msg(first.entry), fine(), first.answer)
		for j, second := range disorders() {
			for _, v := range []api.Value{msg(first.entry, second.entry), msg(first.entry, second.entry, at(1, num(0)))} {
				if got := normal(t, s, "w.W", v); !first.answer.is(got.e, got.at) {
					t.Errorf("P802: %d ahead of %d: %v, want %v", i, j, got, first.answer)
				}
			}
			want := joined(trail(repeated+api.TMessage, 1), first.answer.at)
			if got := size(t, s, "w.W", one(repeated+api.TMessage, list(msg(), msg(first.entry), msg(second.entry)))); !fault(api.ErrNormal, want...).is(got.e, got.at) {
				t.Errorf("P802: %d ahead of %d in a list: %v, want %v", i, j, got, want)
			}
		}
		for _, wrong := range wrongs() {
			check(t, s, "w.W", msg(first.entry, wrong.entry), wrong.answer, wrong.answer)
			check(t, s, "w.W", msg(wrong.entry, first.entry), wrong.answer, wrong.answer)
		}
	}
	// An entry comes ahead of what its value holds, a pair ahead of its value.
	check(t, s, "w.W", msg(at(ofV, msg()), at(ofV, one(1, num(0)))), fine(), fault(api.ErrNormal, ofV))
	check(t, s, "w.W", one(mapV, dict(pair(num(2), msg()), pair(num(1), one(1, num(0))))), fine(), fault(api.ErrNormal, mapV, 1))
}

// ways are ways from a message to one within it, and their trails.
func ways() []place {
	return []place{
		{trail(api.TMessage), func(v api.Value) api.Value { return one(api.TMessage, v) }},
		{trail(optional + api.TMessage), func(v api.Value) api.Value { return one(optional+api.TMessage, v) }},
		{trail(member + api.TMessage), func(v api.Value) api.Value { return one(member+api.TMessage, v) }},
		{trail(repeated+api.TMessage, 0), func(v api.Value) api.Value { return one(repeated+api.TMessage, list(v, msg())) }},
		{trail(mapped+api.TMessage, 0, 2), func(v api.Value) api.Value {
			return one(mapped+api.TMessage, dict(kv("", v), kv("k", msg())))
		}},
	}
}

func TestMostDepth(t *testing.T) { // P7: 64 and 65 messages in one another, on ways of all kinds
	s := load(t, wide())
	for i := range ways() {
		for _, mixed := range []bool{false, true} {
			v, l := one(1, num(1)), []int(nil)
			for n := 2; n <= 66; n++ {
				way := ways()[i]
				if mixed {
					way = ways()[(i+n)%len(ways())]
				}
				v, l = way.put(v), joined(way.at, l)
				want := fine()
				if n > api.MaxDepth {
					want = fault(api.ErrDepth, l[:depthAt(l)]...)
				}
				check(t, s, "w.W", v, want, want)
				deep(t, v, n)
			}
		}
	}
	// The first of several, in the walk; behind what is not normal and what is not typed.
	long := chain(64, api.TMessage, one(1, num(1)))
	v := msg(at(api.TMessage, long), at(optional+api.TMessage, long))
	check(t, s, "w.W", v, fault(api.ErrDepth, times(64, api.TMessage)...), fault(api.ErrDepth, times(64, api.TMessage)...))
	v = msg(at(api.TMessage, chain(62, api.TMessage, msg())), at(optional+api.TMessage, long))
	check(t, s, "w.W", v, fault(api.ErrDepth, joined(trail(optional+api.TMessage), times(63, api.TMessage))...), fault(api.ErrDepth, joined(trail(optional+api.TMessage), times(63, api.TMessage))...))
	v = chain(70, api.TMessage, one(1, num(0)))
	check(t, s, "w.W", v, fault(api.ErrDepth, times(64, api.TMessage)...), fault(api.ErrNormal, append(times(70, api.TMessage), 1)...))
	v = chain(70, api.TMessage, one(18, num(0)))
	check(t, s, "w.W", v, fault(api.ErrType, append(times(70, api.TMessage), 18)...), fault(api.ErrType, append(times(70, api.TMessage), 18)...))
	v = msg(at(api.TMessage, long), at(optional+1, text("")))
	check(t, s, "w.W", v, fault(api.ErrType, optional+1), fault(api.ErrType, optional+1))
	v = msg(at(api.TMessage, long), at(repeated+1, list()))
	check(t, s, "w.W", v, fault(api.ErrDepth, times(64, api.TMessage)...), fault(api.ErrNormal, repeated+1))
}

// depthAt tells how much of a trail along ways leads to the 65th message.
func depthAt(l []int) int {
	n := 0
	for range 64 {
		switch l[n] {
		case repeated + api.TMessage:
			n += 2
		case mapped + api.TMessage:
			n += 3
		default:
			n++
		}
	}
	return n
}
