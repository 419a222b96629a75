package path_test

import (
	"fmt"
	"math"
	"strings"
	"testing"

	"sigil/api"
	"sigil/path"
)

func TestSetOfTypes(t *testing.T) { // P1307: a value of every type and card, over nothing, over another, over itself
	s := wideSchema()
	for typ := api.TDouble; typ <= api.TMessage; typ++ {
		zero, some := zeroOf(typ), someOf(typ)
		of := func(form string) string { return fmt.Sprintf(form, typ) }
		end := at(far, num(1))
		alone := func(n int, v api.Value) api.Value { return msg(at(n, v), end) }
		for _, v := range []api.Value{zero, some} {
			gone := alone(single+typ, v)
			if same(v, zero) && typ != api.TMessage {
				gone = msg(end) // an implicit zero takes the field away
			}
			sets(t, s, "w.W", msg(end), of("s_%d"), v, gone)
			sets(t, s, "w.W", alone(single+typ, some), of("s%d"), v, gone)
			for _, c := range []struct {
				p string
				n int
			}{{of("o_%d"), optional + typ}, {of("x_%d"), member + typ}} {
				sets(t, s, "w.W", msg(end), c.p, v, alone(c.n, v))
				sets(t, s, "w.W", alone(c.n, zero), c.p, v, alone(c.n, v))
				sets(t, s, "w.W", alone(c.n, some), c.p, v, alone(c.n, v))
			}
			r, m := repeated+typ, mapped+typ
			sets(t, s, "w.W", msg(end), of("r_%d[0]"), v, alone(r, list(v)))
			sets(t, s, "w.W", alone(r, list(some, zero)), of("r_%d[0]"), v, alone(r, list(v, zero)))
			sets(t, s, "w.W", alone(r, list(zero, some)), of("r_%d[1]"), v, alone(r, list(zero, v)))
			sets(t, s, "w.W", alone(r, list(zero, some)), of("r_%d[2]"), v, alone(r, list(zero, some, v)))
			sets(t, s, "w.W", msg(end), of("r_%d"), list(v), alone(r, list(v)))
			sets(t, s, "w.W", alone(r, list(some)), of("r_%d"), list(v, zero, v), alone(r, list(v, zero, v)))
			sets(t, s, "w.W", msg(end), of(`m_%d["k"]`), v, alone(m, dict(kv("k", v))))
			sets(t, s, "w.W", alone(m, dict(kv("k", some))), of(`m_%d["k"]`), v, alone(m, dict(kv("k", v))))
			sets(t, s, "w.W", alone(m, dict(kv("k", some))), of(`m_%d[""]`), v, alone(m, dict(kv("", v), kv("k", some))))
			sets(t, s, "w.W", alone(m, dict(kv("k", some))), of(`m_%d["kk"]`), v, alone(m, dict(kv("k", some), kv("kk", v))))
			sets(t, s, "w.W", alone(m, dict(kv("a", some), kv("c", zero))), of(`m_%d["b"]`), v, alone(m, dict(kv("a", some), kv("b", v), kv("c", zero))))
			sets(t, s, "w.W", alone(m, dict(kv("k", some))), of("m_%d"), dict(kv("a", v), kv("b", zero)), alone(m, dict(kv("a", v), kv("b", zero))))
		}
		for _, m := range []api.Value{msg(end), alone(repeated+typ, list(some)), alone(mapped+typ, dict(kv("", some)))} {
			if len(m.Fields) == 1 || m.Fields[0].Number == repeated+typ {
				sets(t, s, "w.W", m, of("r_%d"), list(), msg(end))
			}
			if len(m.Fields) == 1 || m.Fields[0].Number == mapped+typ {
				sets(t, s, "w.W", m, of("m_%d"), dict(), msg(end))
			}
		}
	}
}

func TestSetOfKeys(t *testing.T) { // P1307: a pair in its place, by the order of every type of keys
	s := wideSchema()
	for _, typ := range keyTypes {
		if typ == api.TString || typ == api.TBool {
			continue
		}
		least, most, _, _ := boundsOf(typ)
		name, m := fmt.Sprintf("k_%d", typ), msg()
		var pairs []api.Value
		keys := []bound{least, {"2", 2}, {"9", 9}, {"10", 10}, most}
		if least.num < 0 {
			keys = []bound{least, {"-10", -10}, {"-9", -9}, {"0", 0}, {"2", 2}, {"10", 10}, most}
		}
		for i, k := range keys {
			pairs = append(pairs, pair(num(k.num), num(i)))
		}
		for _, i := range []int{3, 1, 4, 0, 2, 5, 6} { // in another order than the keys have
			if i >= len(keys) {
				continue
			}
			var e api.Errno
			if m, e = path.Set(s, "w.W", m, name+"["+keys[i].digits+"]", num(i)); e != api.OK {
				t.Fatalf("P1307: Set at %s[%s]: %v", name, keys[i].digits, e)
			}
		}
		if want := one(keyed+typ, dict(pairs...)); !same(m, want) {
			t.Errorf("P1307: pairs set one by one: %s, want %s", short(m), short(want))
		}
		sets(t, s, "w.W", msg(), name, dict(pairs...), one(keyed+typ, dict(pairs...)))
		pairs[0], pairs[1] = pairs[1], pairs[0]
		setRefuses(t, s, "w.W", msg(), name, dict(pairs...), api.ErrNormal)
		setRefuses(t, s, "w.W", msg(), name, dict(pairs[2], pairs[2]), api.ErrNormal)
	}
	sets(t, s, "w.W", one(keyed+api.TBool, dict(pair(num(1), num(1)))), "k_13[false]", num(7), one(keyed+api.TBool, dict(pair(num(0), num(7)), pair(num(1), num(1)))))
	setRefuses(t, s, "w.W", msg(), "k_13", dict(pair(num(1), num(1)), pair(num(0), num(1))), api.ErrNormal)
	sets(t, s, "w.W", one(keyed+api.TUint64, dict(pair(num(1), num(1)), pair(num(-1), num(2)))), "k_6[9223372036854775808]", num(7), one(keyed+api.TUint64, dict(pair(num(1), num(1)), pair(num(math.MinInt), num(7)), pair(num(-1), num(2)))))
}

func TestSetAtIndexes(t *testing.T) { // P1307: an index of the list's length, and one above it; at the end of the path and on its way
	s := wideSchema()
	for n := range 4 {
		var l []api.Value
		for i := range n {
			l = append(l, one(3, num(i+1)))
		}
		m := one(repeated+api.TMessage, list(l...))
		if n == 0 {
			m = msg()
		}
		more := append(append([]api.Value{}, l...), one(3, num(9)))
		sets(t, s, "w.W", m, fmt.Sprintf("r_17[%d].s_3", n), num(9), one(repeated+api.TMessage, list(more...)))
		sets(t, s, "w.W", m, fmt.Sprintf("r_17[%d]", n), one(3, num(9)), one(repeated+api.TMessage, list(more...)))
		more[n] = msg()
		sets(t, s, "w.W", m, fmt.Sprintf("r_17[%d].s_3", n), num(0), one(repeated+api.TMessage, list(more...)))
		more[n] = one(repeated+api.TMessage, list(msg()))
		sets(t, s, "w.W", m, fmt.Sprintf("r_17[%d].r_17[0]", n), msg(), one(repeated+api.TMessage, list(more...)))
		for _, above := range []int{n + 1, n + 2, 4194303} {
			setRefuses(t, s, "w.W", m, fmt.Sprintf("r_17[%d]", above), msg(), api.ErrIndex)
			setRefuses(t, s, "w.W", m, fmt.Sprintf("r_17[%d].s_3", above), num(1), api.ErrIndex)
			setRefuses(t, s, "w.W", m, fmt.Sprintf("r_17[%d].s_3", above), num(0), api.ErrIndex)
			setRefuses(t, s, "w.W", m, fmt.Sprintf("r_17[%d].r_3", above), list(), api.ErrIndex)
			setRefuses(t, s, "w.W", m, fmt.Sprintf("r_17[%d].of_v.w.r_17[0].s_3", above), num(1), api.ErrIndex)
			setRefuses(t, s, "w.W", m, fmt.Sprintf("r_17[%d].r_17[1].s_3", n), num(1), api.ErrIndex)
			setRefuses(t, s, "w.W", m, fmt.Sprintf("r_3[%d]", above-n), num(1), api.ErrIndex)
			// What does not fit, or is not normal, goes ahead.
			setRefuses(t, s, "w.W", m, fmt.Sprintf("r_17[%d]", above), num(1), api.ErrType)
			setRefuses(t, s, "w.W", m, fmt.Sprintf("r_17[%d]", above), one(3, num(0)), api.ErrNormal)
		}
	}
}

func TestSetOnTheWay(t *testing.T) { // P1307: what is not there on the way comes to be there, also where the value takes a field away
	s := wideSchema()
	sets(t, s, "w.W", msg(), "of_v.a", num(1), one(ofV, one(1, num(1))))
	sets(t, s, "w.W", msg(), "of_v.a", num(0), one(ofV, msg()))
	sets(t, s, "w.W", msg(), "of_v.w.r_3", list(), one(ofV, one(2, msg())))
	sets(t, s, "w.W", msg(), "of_v.w.m_3", dict(), one(ofV, one(2, msg())))
	sets(t, s, "w.W", msg(), "of_v.w.s_14", text(""), one(ofV, one(2, msg())))
	sets(t, s, "w.W", msg(), "of_v.w.o_14", text(""), one(ofV, one(2, one(optional+api.TString, text("")))))
	sets(t, s, "w.W", msg(), "list_v[0].a", num(0), one(listV, list(msg())))
	sets(t, s, "w.W", msg(), "map_v[5].a", num(0), one(mapV, dict(pair(num(5), msg()))))
	sets(t, s, "w.W", msg(), "map_v[5]", msg(), one(mapV, dict(pair(num(5), msg()))))
	deep := one(mapped+api.TMessage, dict(kv("k", one(repeated+api.TMessage, list(one(optional+api.TMessage, one(member+api.TMessage, one(3, num(4)))))))))
	deep = one(2, dict(pair(num(1), one(2, dict(pair(num(0), one(3, one(2, deep))))))))
	sets(t, s, "w.W", msg(), `of_v.u[0].u[true].u[false].v.w.m_17["k"].r_17[0].o_17.x_17.s_3`, num(4), one(ofV, one(3, list(deep))))
	// Into what is there: all else stays as it was.
	m := msg(at(3, num(1)), at(ofV, msg(at(1, num(5)), at(3, list(one(1, num(1)), one(1, num(2)))))), at(mapV, dict(pair(num(1), one(1, num(1))), pair(num(-1), msg()))), at(far, num(1)))
	sets(t, s, "w.W", m, "of_v.u[1].s", text("x"), msg(m.Fields[0], at(ofV, msg(at(1, num(5)), at(3, list(one(1, num(1)), msg(at(1, num(2)), at(4, text("x"))))))), m.Fields[2], m.Fields[3]))
	sets(t, s, "w.W", m, "of_v.u[2].b", text(""), msg(m.Fields[0], at(ofV, msg(at(1, num(5)), at(3, list(one(1, num(1)), one(1, num(2)), one(5, text("")))))), m.Fields[2], m.Fields[3]))
	sets(t, s, "w.W", m, "map_v[7].w.far", num(3), msg(m.Fields[0], m.Fields[1], at(mapV, dict(pair(num(1), one(1, num(1))), pair(num(7), one(2, one(far, num(3)))), pair(num(-1), msg()))), m.Fields[3]))
	sets(t, s, "w.W", m, "map_v[18446744073709551615].a", num(3), msg(m.Fields[0], m.Fields[1], at(mapV, dict(pair(num(1), one(1, num(1))), pair(num(-1), one(1, num(3))))), m.Fields[3]))
	sets(t, s, "w.W", m, "", msg(), msg())
	sets(t, s, "w.W", m, "", one(ofV, one(1, num(1))), one(ofV, one(1, num(1))))
	sets(t, s, "w.W", m, "", m, m)
}

func TestSetOfMembers(t *testing.T) { // P1307: the other members of a oneof go, at the end of the path and on its way; those of another oneof stay
	s := wideSchema()
	for typ := api.TDouble; typ <= api.TMessage; typ++ {
		for from := api.TDouble; from <= api.TMessage; from++ {
			m := msg(at(3, num(1)), at(member+from, zeroOf(from)), at(other, num(0)), at(far, num(1)))
			for _, v := range []api.Value{zeroOf(typ), someOf(typ)} {
				sets(t, s, "w.W", m, fmt.Sprintf("x_%d", typ), v, msg(at(3, num(1)), at(member+typ, v), at(other, num(0)), at(far, num(1))))
			}
		}
	}
	for _, rival := range []api.Entry{at(member+1, num(0)), at(member+16, num(3)), at(member+api.TMessage, one(3, num(7)))} {
		for _, c := range []struct {
			p string
			v api.Value
			n api.Value
		}{{"x_17.s_3", num(1), one(3, num(1))}, {"x_17.s_3", num(0), msg()}, {"x_17.r_3", list(), msg()}, {"x_17.x_17.x_1", num(0), one(member+17, one(member+1, num(0)))}} {
			want := c.n
			if rival.Number == member+api.TMessage {
				switch c.p {
				case "x_17.x_17.x_1":
					want = msg(at(3, num(7)), c.n.Fields[0])
				case "x_17.r_3":
					want = one(3, num(7))
				}
			}
			sets(t, s, "w.W", msg(rival, at(other+1, num(4))), c.p, c.v, msg(at(member+17, want), at(other+1, num(4))))
			sets(t, s, "w.W", one(repeated+17, list(msg(rival), msg(rival))), "r_17[1]."+c.p, c.v, one(repeated+17, list(msg(rival), one(member+17, want))))
		}
	}
	sets(t, s, "w.W", msg(at(member+3, num(1)), at(other, num(1))), "q_2.a", num(0), msg(at(member+3, num(1)), at(other+2, msg())))
	sets(t, s, "w.W", msg(at(member+3, num(1)), at(other, num(1))), "q_1", num(0), msg(at(member+3, num(1)), at(other+1, num(0))))
	// A field that is refused takes nothing away.
	setRefuses(t, s, "w.W", msg(at(member+3, num(1))), "x_17.r_17[1]", msg(), api.ErrIndex)
}

// unfit are values that do not fit a field of a type, or are no values of it.
func unfit(typ int) []api.Value {
	l := []api.Value{{}, {Kind: 9}, {Kind: -1}, list(), list(someOf(typ)), dict(), dict(kv("", someOf(typ))), pair(), pair(someOf(typ)), kv("", someOf(typ))}
	for _, v := range []api.Value{num(0), num(1), text(""), text("x"), msg(), one(api.TBool, num(1))} {
		if v.Kind != zeroOf(typ).Kind {
			l = append(l, v)
		}
	}
	impure := []api.Value{zeroOf(typ), zeroOf(typ), zeroOf(typ), zeroOf(typ)}
	impure[0].List = []api.Value{num(0)}
	impure[1].Num++
	impure[2].Text = "x"
	impure[3].Fields = []api.Entry{at(1, num(0))}
	for i, kind := range []int{0, api.VNum, api.VText, api.VMessage} {
		if zeroOf(typ).Kind != kind {
			l = append(l, impure[i])
		}
	}
	switch typ {
	case api.TInt32, api.TSint32, api.TSfixed32, api.TEnum:
		l = append(l, num(math.MinInt32-1), num(math.MaxInt32+1), num(math.MinInt), num(math.MaxInt))
	case api.TUint32, api.TFixed32, api.TFloat:
		l = append(l, num(-1), num(math.MaxUint32+1), num(math.MinInt), num(math.MaxInt))
	case api.TBool:
		l = append(l, num(-1), num(2), num(math.MinInt))
	case api.TString:
		l = append(l, text("\xff"), text("a\xc3"), text("\xed\xa0\x80"))
	case api.TMessage:
		l = append(l, one(18, num(0)), one(3, text("")), one(0, num(1)), msg(at(3, num(1)), at(-1, num(1))), one(17, one(17, one(18, num(0)))), one(3, num(math.MaxInt32+1)))
	}
	return l
}

// setRefusesAll looks at the error of a value at a path of the wide schema: by itself, and ahead of that of an index which no list has.
func setRefusesAll(t *testing.T, p string, v api.Value, want api.Errno) {
	t.Helper()
	s := wideSchema()
	setRefuses(t, s, "w.W", msg(), p, v, want)
	setRefuses(t, s, "w.W", msg(), strings.TrimSuffix("r_17[1]."+p, "."), v, want)
	setRefuses(t, s, "w.W", full(), p, v, want)
}

func TestSetUnfit(t *testing.T) { // P1307: ErrType, of every type at every kind of place
	s := wideSchema()
	for typ := api.TDouble; typ <= api.TMessage; typ++ {
		of := func(form string) string { return fmt.Sprintf(form, typ) }
		zero := zeroOf(typ)
		for _, v := range unfit(typ) {
			for _, p := range []string{"s_%d", "o_%d", "x_%d", "r_%d[0]", `m_%d["a"]`} {
				setRefusesAll(t, of(p), v, api.ErrType)
				setRefusesAll(t, "of_v.w."+of(p), v, api.ErrType)
			}
			setRefusesAll(t, of("r_%d"), list(v), api.ErrType)
			setRefusesAll(t, of("r_%d"), list(zero, v), api.ErrType)
			setRefusesAll(t, of("r_%d"), list(v, zero), api.ErrType)
			setRefusesAll(t, of("m_%d"), dict(kv("", v)), api.ErrType)
			setRefusesAll(t, of("m_%d"), dict(kv("", zero), kv("a", v)), api.ErrType)
			setRefusesAll(t, of("m_%d"), dict(kv("b", zero), kv("a", v)), api.ErrType) // ahead of keys that do not rise
			setRefusesAll(t, of("m_%d"), dict(kv("a", v), kv("b", zero), kv("a", zero)), api.ErrType)
		}
		for _, v := range []api.Value{{}, zero, someOf(typ), msg(), num(1), text(""), kv("", zero), {Kind: api.VList, Num: 1}, {Kind: api.VList, Text: "x"}, {Kind: api.VList, Fields: []api.Entry{{}}}, {Kind: api.VMap, Num: 1}, {Kind: api.VMap, Text: "x"}, {Kind: api.VMap, Fields: []api.Entry{{}}}} {
			setRefusesAll(t, of("r_%d"), v, api.ErrType)
			setRefusesAll(t, of("m_%d"), v, api.ErrType)
		}
		setRefusesAll(t, of("r_%d"), dict(), api.ErrType)
		setRefusesAll(t, of("m_%d"), list(), api.ErrType)
		for _, wrong := range []api.Value{{}, zero, list(text("a"), zero), msg(), pair(), pair(text("a")), pair(text("a"), zero, zero), pair(num(0), zero), pair(text("\xff"), zero), pair(zero), {Kind: api.VPair, Num: 1, List: []api.Value{text("a"), zero}}, {Kind: api.VPair, Text: "x", List: []api.Value{text("a"), zero}}, {Kind: api.VPair, Fields: []api.Entry{{}}, List: []api.Value{text("a"), zero}}} {
			setRefusesAll(t, of("m_%d"), dict(wrong), api.ErrType)
			setRefusesAll(t, of("m_%d"), dict(kv("", zero), wrong), api.ErrType)
		}
	}
	for _, typ := range keyTypes {
		name := fmt.Sprintf("k_%d", typ)
		for _, k := range append(unfit(typ), msg()) {
			setRefusesAll(t, name, dict(pair(k, num(0))), api.ErrType)
		}
	}
	for _, v := range unfit(api.TMessage) {
		setRefusesAll(t, "", v, api.ErrType)
	}
	setRefusesAll(t, "of_v", one(2, one(far, text(""))), api.ErrType)
	setRefusesAll(t, "of_v", one(3, num(1)), api.ErrType) // a V, not a W
	sets(t, s, "w.W", msg(), "s_17", one(3, num(1)), one(17, one(3, num(1))))
}

func TestSetBounds(t *testing.T) { // P1307: numbers of every type at its bounds fit
	s := wideSchema()
	for typ, l := range map[int][]int{
		api.TInt32: {math.MinInt32, math.MaxInt32}, api.TSint32: {math.MinInt32, math.MaxInt32}, api.TSfixed32: {math.MinInt32, math.MaxInt32}, api.TEnum: {math.MinInt32, math.MaxInt32, 77},
		api.TUint32: {math.MaxUint32}, api.TFixed32: {math.MaxUint32}, api.TFloat: {math.MaxUint32, 1 << 31},
		api.TInt64: {math.MinInt, math.MaxInt}, api.TSint64: {math.MinInt, math.MaxInt}, api.TSfixed64: {math.MinInt, math.MaxInt}, api.TUint64: {-1, math.MinInt}, api.TFixed64: {-1, math.MinInt}, api.TDouble: {-1, math.MinInt}, api.TBool: {1},
	} {
		for _, n := range l {
			sets(t, s, "w.W", msg(), fmt.Sprintf("s_%d", typ), num(n), one(single+typ, num(n)))
			sets(t, s, "w.W", msg(), fmt.Sprintf("r_%d[0]", typ), num(n), one(repeated+typ, list(num(n))))
			sets(t, s, "w.W", msg(), fmt.Sprintf("m_%d", typ), dict(kv("", num(n))), one(mapped+typ, dict(kv("", num(n)))))
		}
	}
	sets(t, s, "w.W", msg(), "s_15", text("\xff\x00"), one(api.TBytes, text("\xff\x00")))
	sets(t, s, "w.W", msg(), "s_14", text("é\x00"), one(api.TString, text("é\x00")))
}

func TestSetDisorder(t *testing.T) { // P1307: ErrNormal: a message in the value that is not normal, a map whose keys do not rise
	for _, v := range []api.Value{
		one(3, num(0)), one(api.TString, text("")), one(repeated+3, list()), one(mapped+3, dict()),
		msg(at(4, num(1)), at(3, num(1))), msg(at(3, num(1)), at(3, num(1))), msg(at(member+1, num(0)), at(member+2, num(0))),
		one(mapped+3, dict(kv("b", num(1)), kv("a", num(1)))), one(mapped+3, dict(kv("a", num(1)), kv("a", num(1)))),
		one(17, one(3, num(0))), one(repeated+17, list(msg(), one(3, num(0)))), one(mapped+17, dict(kv("", one(17, one(repeated+3, list()))))),
	} {
		for _, p := range []string{"", "s_17", "o_17", "x_17", "r_17[0]", `m_17["a"]`, "of_v.w", "q_2.w"} {
			setRefusesAll(t, p, v, api.ErrNormal)
		}
		setRefusesAll(t, "r_17", list(v), api.ErrNormal)
		setRefusesAll(t, "r_17", list(msg(), v, msg()), api.ErrNormal)
		setRefusesAll(t, "m_17", dict(kv("", v)), api.ErrNormal)
		setRefusesAll(t, "m_17", dict(kv("", msg()), kv("a", v), kv("b", msg())), api.ErrNormal)
		// What does not fit goes ahead, wherever it stands.
		setRefusesAll(t, "r_17", list(v, num(1)), api.ErrType)
		setRefusesAll(t, "r_17", list(one(18, num(0)), v), api.ErrType)
		setRefusesAll(t, "m_17", dict(kv("b", v), kv("a", one(18, num(0)))), api.ErrType)
	}
	for typ := api.TDouble; typ <= api.TMessage; typ++ {
		for _, l := range [][]api.Value{{kv("b", zeroOf(typ)), kv("a", zeroOf(typ))}, {kv("a", zeroOf(typ)), kv("a", someOf(typ))}, {kv("a", zeroOf(typ)), kv("c", zeroOf(typ)), kv("b", zeroOf(typ)), kv("d", zeroOf(typ))}, {kv("a", someOf(typ)), kv("", someOf(typ))}} {
			setRefusesAll(t, fmt.Sprintf("m_%d", typ), dict(l...), api.ErrNormal)
		}
	}
}

func TestSetTakesAway(t *testing.T) { // P1307: of implicit zeros, and of what is empty, the field goes and nothing else; a zero by other bits stays
	s := wideSchema()
	m := msg(at(3, num(1)), at(api.TString, text("x")), at(repeated+3, list(num(1))), at(mapped+3, dict(kv("", num(1)))), at(far, num(1)))
	without := func(i int) api.Value {
		return msg(append(append([]api.Entry{}, m.Fields[:i]...), m.Fields[i+1:]...)...)
	}
	sets(t, s, "w.W", m, "s_3", num(0), without(0))
	sets(t, s, "w.W", m, "s_14", text(""), without(1))
	sets(t, s, "w.W", m, "r_3", list(), without(2))
	sets(t, s, "w.W", m, "m_3", dict(), without(3))
	sets(t, s, "w.W", m, "far", num(0), without(4))
	sets(t, s, "w.W", m, "s_4", num(0), m)
	sets(t, s, "w.W", m, "r_4", list(), m)
	sets(t, s, "w.W", msg(), "s_1", num(math.MinInt), one(api.TDouble, num(math.MinInt))) // -0
	sets(t, s, "w.W", msg(), "s_2", num(1<<31), one(api.TFloat, num(1<<31)))
	sets(t, s, "w.W", m, "s_17", msg(), msg(m.Fields[0], m.Fields[1], at(17, msg()), m.Fields[2], m.Fields[3], m.Fields[4]))
}
