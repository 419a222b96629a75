package diff_test

import (
	"fmt"
	"math"
	"strings"
	"testing"

	"sigil/api"
	"sigil/tree"
)

// samples are values of a type, in the order of keys; the first that is its zero stands where the order has it.
func samples(typ int) []api.Value {
	switch typ {
	case api.TMessage:
		return []api.Value{msg(), one(3, num(1)), one(3, num(2))}
	case api.TString:
		return []api.Value{text(""), text("a"), text("a\x00"), text("b"), text("é")}
	case api.TBytes:
		return []api.Value{text(""), text("a"), text("\xff")}
	case api.TBool:
		return []api.Value{num(0), num(1)}
	case api.TUint32, api.TFixed32, api.TFloat:
		return []api.Value{num(0), num(1), num(1 << 31), num(math.MaxUint32)}
	case api.TUint64, api.TFixed64:
		return []api.Value{num(0), num(1), num(math.MaxInt), num(math.MinInt), num(-1)}
	case api.TInt32, api.TSint32, api.TSfixed32, api.TEnum:
		return []api.Value{num(math.MinInt32), num(-1), num(0), num(1), num(math.MaxInt32)}
	}
	return []api.Value{num(math.MinInt), num(-1), num(0), num(1), num(math.MaxInt)}
}

func isZero(typ int, v api.Value) bool {
	zero, _ := tree.Zero(typ)
	return same(v, zero)
}

// inner are the edits of two samples of w.W, at a path.
func inner(p string, a, b api.Value) []api.Edit {
	switch {
	case same(a, b):
		return nil
	case len(b.Fields) == 0:
		return []api.Edit{drop(p + ".s_3")}
	}
	return []api.Edit{set(p+".s_3", b.Fields[0].Value)}
}

func TestSingles(t *testing.T) { // P1902: single and optional fields and members of oneofs, of every type: there and not, the same, unlike
	s := wideSchema()
	for typ := api.TDouble; typ <= api.TMessage; typ++ {
		for letter, number := range map[string]int{"s": single + typ, "o": optional + typ, "x": member + typ} {
			p := fmt.Sprintf("%s_%d", letter, typ)
			for _, a := range samples(typ) {
				if letter == "s" && typ != api.TMessage && isZero(typ, a) {
					continue // not there
				}
				turns(t, s, "w.W", msg(), one(number, a), set(p, a))
				turns(t, s, "w.W", one(number, a), msg(), drop(p))
				for _, b := range samples(typ) {
					if letter == "s" && typ != api.TMessage && isZero(typ, b) {
						continue
					}
					switch {
					case same(a, b):
						turns(t, s, "w.W", one(number, a), one(number, b))
					case typ == api.TMessage:
						turns(t, s, "w.W", one(number, a), one(number, b), inner(p, a, b)...)
					default:
						turns(t, s, "w.W", one(number, a), one(number, b), set(p, b))
					}
				}
			}
		}
	}
}

func TestFloats(t *testing.T) { // P1902: numbers are the same by their bits: zeros of either sign, numbers that are none
	s := wideSchema()
	turns(t, s, "w.W", one(optional+api.TDouble, num(0)), one(optional+api.TDouble, num(math.MinInt)), set("o_1", num(math.MinInt)))
	turns(t, s, "w.W", one(api.TFloat, num(0x7fc00000)), one(api.TFloat, num(0x7fc00000)))
	turns(t, s, "w.W", one(api.TFloat, num(0x7fc00000)), one(api.TFloat, num(0x7fc00001)), set("s_2", num(0x7fc00001)))
}

func TestOrderOfFields(t *testing.T) { // P1902: what goes by rising number, then what comes or is changed, by rising number
	s := wideSchema()
	a := msg(at(1, num(1)), at(3, num(3)), at(5, num(5)), at(14, text("x")), at(43, nums(1)), at(ofV, msg()), at(far, num(1)))
	b := msg(at(2, num(2)), at(3, num(4)), at(14, text("x")), at(43, nums(2)), at(74, dict(kv("", text("")))), at(ofV, one(1, num(1))))
	turns(t, s, "w.W", a, b, drop("s_1"), drop("s_5"), drop("far"), set("s_2", num(2)), set("s_3", num(4)), splice("r_3", 0, 1, num(2)), set("m_14", dict(kv("", text("")))), set("of_v.a", num(1)))
	turns(t, s, "w.W", b, a, drop("s_2"), drop("m_14"), set("s_1", num(1)), set("s_3", num(3)), set("s_5", num(5)), splice("r_3", 0, 1, num(1)), drop("of_v.a"), set("far", num(1)))
	turns(t, s, "w.W", a, msg(), drop("s_1"), drop("s_3"), drop("s_5"), drop("s_14"), drop("r_3"), drop("of_v"), drop("far"))
	turns(t, s, "w.W", a, a)
	turns(t, s, "w.W", msg(), msg())
}

func TestMessagesWithin(t *testing.T) { // P1902: messages within messages: what is within one is done where the message stands, all at its own paths
	s := wideSchema()
	a := msg(at(ofV, msg(at(1, num(1)), at(2, msg(at(3, num(3)), at(ofU, one(1, num(7))))))), at(far, num(1)))
	b := msg(at(1, num(1)), at(ofV, msg(at(2, msg(at(4, num(4)), at(ofU, msg(at(1, num(8)), at(5, text("")))))), at(4, list(text("x"))))), at(ofU, msg()))
	turns(t, s, "w.W", a, b, drop("far"), set("s_1", num(1)),
		drop("of_v.a"), drop("of_v.w.s_3"), set("of_v.w.s_4", num(4)), set("of_v.w.of_u.a_b", num(8)), set("of_v.w.of_u.b", text("")), set("of_v.c_d", list(text("x"))), set("of_u", msg()))
	// Messages that are all there, and the same, or without fields.
	deep := func(v api.Value) api.Value {
		for range 31 {
			v = one(ofV, one(2, v))
		}
		return v
	}
	p := strings.TrimPrefix(strings.Repeat(".of_v.w", 31), ".")
	turns(t, s, "w.W", deep(msg()), deep(msg()))
	turns(t, s, "w.W", deep(msg()), deep(one(3, num(1))), set(p+".s_3", num(1)))
	turns(t, s, "w.W", deep(one(3, num(1))), deep(msg()), drop(p+".s_3"))
	turns(t, s, "w.W", deep(one(ofV, msg())), deep(msg()), drop(p+".of_v"))
	turns(t, s, "w.W", one(ofV, msg()), one(ofV, one(2, msg())), set("of_v.w", msg()))
}

func TestOneofs(t *testing.T) { // P1902, P1905: a member that takes the place of another; of two oneofs; of one deep within
	s := wideSchema()
	turns(t, s, "w.W", one(member+3, num(0)), one(member+4, num(0)), drop("x_3"), set("x_4", num(0)))
	turns(t, s, "w.W", one(member+4, num(0)), one(member+3, num(0)), drop("x_4"), set("x_3", num(0)))
	turns(t, s, "w.W", one(member+17, one(3, num(1))), one(member+14, text("")), drop("x_17"), set("x_14", text("")))
	turns(t, s, "w.W", msg(at(member+1, num(1)), at(other, num(1))), msg(at(member+2, num(1)), at(other+2, one(1, num(1)))), drop("x_1"), drop("q_0"), set("x_2", num(1)), set("q_2", one(1, num(1))))
	turns(t, s, "w.W", msg(at(member+1, num(1)), at(other, num(0))), msg(at(member+1, num(2)), at(other, num(1))), set("x_1", num(2)), set("q_0", num(1)))
	turns(t, s, "w.U", one(3, one(3, list(one(4, text("x"))))), one(3, one(3, list(one(3, msg())))), splice("v.u", 0, 1, one(3, msg())))
	turns(t, s, "w.U", one(2, dict(pair(num(1), one(4, text("x"))))), one(2, dict(pair(num(1), one(3, msg())))), drop("u[true].s"), set("u[true].v", msg()))
}

func TestLists(t *testing.T) { // P1902: lists that share a front, an end, both, all, nothing, and where front and end would overlap
	s := smallSchema()
	for _, c := range []struct {
		a, b    []int
		at, out int
		in      []int
	}{
		{[]int{1}, []int{2}, 0, 1, []int{2}},
		{[]int{1, 2}, []int{3, 4, 5}, 0, 2, []int{3, 4, 5}},
		{[]int{1, 2, 3}, []int{1, 2, 4}, 2, 1, []int{4}},
		{[]int{1, 2, 3}, []int{4, 2, 3}, 0, 1, []int{4}},
		{[]int{1, 2, 3}, []int{1, 4, 3}, 1, 1, []int{4}},
		{[]int{1, 2, 3}, []int{1, 3}, 1, 1, nil},
		{[]int{1, 3}, []int{1, 2, 3}, 1, 0, []int{2}},
		{[]int{1, 2, 3, 4}, []int{1, 5, 6, 4}, 1, 2, []int{5, 6}},
		{[]int{1, 2, 3, 4}, []int{2, 3, 4}, 0, 1, nil},
		{[]int{1, 2, 3, 4}, []int{1, 2, 3}, 3, 1, nil},
		{[]int{2, 3, 4}, []int{1, 2, 3, 4}, 0, 0, []int{1}},
		{[]int{1, 2, 3}, []int{1, 2, 3, 4}, 3, 0, []int{4}},
		{[]int{1, 2}, []int{1, 2, 1, 2}, 2, 0, []int{1, 2}},
		{[]int{1, 2, 1, 2}, []int{1, 2}, 2, 2, nil},
		{[]int{1, 1}, []int{1, 1, 1}, 2, 0, []int{1}},
		{[]int{1, 1, 1, 1}, []int{1}, 1, 3, nil},
		{[]int{1, 2, 1}, []int{1, 2, 2, 1}, 2, 0, []int{2}},
		{[]int{1, 2, 2, 1}, []int{1, 2, 1}, 2, 1, nil},
		{[]int{1, 2, 1, 2, 1}, []int{1, 2, 1}, 3, 2, nil},
		{[]int{1, 2, 3}, []int{3, 2, 1}, 0, 3, []int{3, 2, 1}},
		{[]int{0, 0, 5, 0, 0}, []int{0, 0, 0, 0}, 2, 1, nil},
		{[]int{0, 0, 0, 0}, []int{0, 0, 5, 0, 0}, 2, 0, []int{5}},
		{[]int{1, 2, 3, 4, 5}, []int{1, 9, 3, 9, 5}, 1, 3, []int{9, 3, 9}},
	} {
		want := splice("c", c.at, c.out, nums(c.in...).List...)
		turns(t, s, "p.M", one(3, nums(c.a...)), one(3, nums(c.b...)), want)
		within := func(l []int) api.Value { return one(7, one(4, dict(kv("k", one(3, nums(l...)))))) }
		want.Path = `g.d["k"].c`
		turns(t, s, "p.M", within(c.a), within(c.b), want)
		turns(t, s, "p.M", one(3, nums(c.a...)), one(3, nums(c.a...)))
	}
	turns(t, s, "p.M", msg(), one(3, nums(0, 0)), set("c", nums(0, 0)))
	turns(t, s, "p.M", one(3, nums(0, 0)), msg(), drop("c"))
}

func TestListsOfAll(t *testing.T) { // P1902: lists of every type; values of lists are told whole, messages too
	s := wideSchema()
	for typ := api.TDouble; typ <= api.TMessage; typ++ {
		p, number, l := fmt.Sprintf("r_%d", typ), repeated+typ, samples(typ)
		last := len(l) - 1
		turns(t, s, "w.W", one(number, list(l...)), one(number, list(l...)))
		turns(t, s, "w.W", one(number, list(l...)), one(number, list(l[:last]...)), splice(p, last, 1))
		turns(t, s, "w.W", one(number, list(l[:1]...)), one(number, list(l...)), splice(p, 1, 0, l[1:]...))
		turns(t, s, "w.W", one(number, list(l[1:]...)), one(number, list(l...)), splice(p, 0, 0, l[0]))
		turns(t, s, "w.W", one(number, list(l[0], l[1], l[last])), one(number, list(l[0], l[0], l[0], l[last])), splice(p, 1, 1, l[0], l[0]))
	}
	v := func(n int) api.Value {
		return msg(at(1, num(n)), at(3, list(one(2, dict(pair(num(0), one(4, text("x"))), pair(num(1), msg()))))))
	}
	turns(t, s, "w.W", one(listV, list(v(1), v(2), v(3))), one(listV, list(v(1), v(4), v(3))), splice("list_v", 1, 1, v(4)))
	turns(t, s, "w.W", one(listV, list(v(1), v(2), v(3))), one(listV, list(v(1), v(3), v(2))), splice("list_v", 1, 2, v(3), v(2)))
}

func TestMaps(t *testing.T) { // P1902: maps of every type of key, whose keys come, go, stay; numbers and messages as values
	s := wideSchema()
	spell := func(typ int, k api.Value) string {
		switch typ {
		case api.TBool:
			return map[int]string{0: "[false]", 1: "[true]"}[k.Num]
		case api.TString:
			return map[string]string{"": `[""]`, "a": `["a"]`, "a\x00": `["a\000"]`, "b": `["b"]`, "é": `["é"]`}[k.Text]
		case api.TUint64, api.TFixed64:
			return fmt.Sprintf("[%d]", uint64(k.Num))
		}
		return fmt.Sprintf("[%d]", k.Num)
	}
	for _, typ := range keyTypes {
		keys := samples(typ)
		p, number := fmt.Sprintf("k_%d", typ), keyed+typ
		q, messages := fmt.Sprintf("v_%d", typ), keyedV+typ
		all, others := dict(), dict()
		allV, othersV := dict(), dict()
		var changed, changedV []api.Edit
		for i, k := range keys {
			all.List, allV.List = append(all.List, pair(k, num(0))), append(allV.List, pair(k, msg()))
			others.List, othersV.List = append(others.List, pair(k, num(i+1))), append(othersV.List, pair(k, one(1, num(i+1))))
			changed, changedV = append(changed, set(p+spell(typ, k), num(i+1))), append(changedV, set(q+spell(typ, k)+".a", num(i+1)))
		}
		turns(t, s, "w.W", one(number, all), one(number, all))
		turns(t, s, "w.W", one(number, all), one(number, others), changed...)
		turns(t, s, "w.W", one(messages, allV), one(messages, othersV), changedV...)
		turns(t, s, "w.W", one(messages, allV), one(messages, allV))
		turns(t, s, "w.W", msg(), one(number, all), set(p, all))
		turns(t, s, "w.W", one(number, all), msg(), drop(p))
		for i, k := range keys {
			// Each key by itself comes, goes, takes the place of the others.
			alone := one(number, dict(pair(k, num(0))))
			var gone, came []api.Edit
			for j, other := range keys {
				if j != i {
					gone, came = append(gone, drop(p+spell(typ, other))), append(came, set(p+spell(typ, other), num(0)))
				}
			}
			turns(t, s, "w.W", one(number, all), alone, gone...)
			turns(t, s, "w.W", alone, one(number, all), came...)
		}
	}
}

func TestKeysThatComeAndGo(t *testing.T) { // P1902: first the keys that go, in their order, then those that come or whose values are changed; also where no key stays
	s := smallSchema()
	m := func(n int) api.Value { return one(1, num(n)) }
	turns(t, s, "p.M", one(4, dict(kv("a", m(1)), kv("b", m(1)), kv("c", m(1)), kv("d", m(1)))), one(4, dict(kv("0", m(1)), kv("b", m(2)), kv("bb", m(1)), kv("d", m(1)), kv("e", msg()))),
		drop(`d["a"]`), drop(`d["c"]`), set(`d["0"]`, m(1)), set(`d["b"].a`, num(2)), set(`d["bb"]`, m(1)), set(`d["e"]`, msg()))
	turns(t, s, "p.M", one(4, dict(kv("a", m(1)), kv("c", m(1)))), one(4, dict(kv("b", m(1)), kv("d", m(1)))), drop(`d["a"]`), drop(`d["c"]`), set(`d["b"]`, m(1)), set(`d["d"]`, m(1)))
	turns(t, s, "p.M", one(4, dict(kv("", m(1)))), one(4, dict(kv("x", m(1)))), drop(`d[""]`), set(`d["x"]`, m(1)))
	// Maps in messages in maps.
	in := func(v api.Value) api.Value { return one(4, dict(kv("x", v))) }
	turns(t, s, "p.M", in(in(in(m(1)))), in(in(in(m(2)))), set(`d["x"].d["x"].d["x"].a`, num(2)))
	turns(t, s, "p.M", in(in(in(m(1)))), in(in(one(4, dict(kv("y", m(1)))))), drop(`d["x"].d["x"].d["x"]`), set(`d["x"].d["x"].d["y"]`, m(1)))
	turns(t, s, "p.M", in(in(m(1))), in(m(1)), drop(`d["x"].d`), set(`d["x"].a`, num(1)))
}

func TestMapValues(t *testing.T) { // P1902: maps with values of every type
	s := wideSchema()
	for typ := api.TDouble; typ <= api.TMessage; typ++ {
		p, number := fmt.Sprintf(`m_%d["k"]`, typ), mapped+typ
		for _, a := range samples(typ) {
			turns(t, s, "w.W", msg(), one(number, dict(kv("k", a))), set(fmt.Sprintf("m_%d", typ), dict(kv("k", a))))
			turns(t, s, "w.W", one(number, dict(kv("j", a))), one(number, dict(kv("j", a), kv("k", a))), set(p, a))
			for _, b := range samples(typ) {
				want := inner(p, a, b)
				if typ != api.TMessage && !same(a, b) {
					want = []api.Edit{set(p, b)}
				}
				turns(t, s, "w.W", one(number, dict(kv("k", a))), one(number, dict(kv("k", b))), want...)
			}
		}
	}
}

func TestPathsAsPrinted(t *testing.T) { // P1902: paths are written as path.Print does: names, not JSON names; keys with escapes
	s := wideSchema()
	turns(t, s, "w.W", one(ofU, msg()), one(ofU, one(1, num(1))), set("of_u.a_b", num(1)))
	turns(t, s, "w.W", one(ofV, one(4, list(text("")))), one(ofV, one(4, list(text("x")))), splice("of_v.c_d", 0, 1, text("x")))
	turns(t, s, "w.W", one(mapped+3, dict(kv("\"\\\n\x7f.]é", num(1)))), one(mapped+3, dict(kv("\"\\\n\x7f.]é", num(2)))), set(`m_3["\"\\\n\177.]é"]`, num(2)))
	turns(t, s, "w.W", one(keyed+api.TUint64, dict(pair(num(-1), num(1)))), one(keyed+api.TUint64, dict(pair(num(0), num(1)))), drop("k_6[18446744073709551615]"), set("k_6[0]", num(1)))
}
