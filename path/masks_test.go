package path_test

import (
	"fmt"
	"slices"
	"strings"
	"testing"

	"sigil/api"
)

// full is a message of the wide schema with a field of every type and card.
func full() api.Value {
	var l []api.Entry
	for _, from := range []int{single, optional, repeated, mapped, member} {
		for typ := api.TDouble; typ <= api.TMessage; typ++ {
			v := someOf(typ)
			switch {
			case from == repeated:
				v = list(v, zeroOf(typ))
			case from == mapped:
				v = dict(kv("", v), kv("a", zeroOf(typ)))
			case from == member && typ != api.TMessage:
				continue
			}
			l = append(l, at(from+typ, v))
		}
	}
	return msg(l...)
}

func TestMasksOfFields(t *testing.T) { // P1310, P1311: one word of each type and card, as declared and as its JSON name
	s, m := wideSchema(), full()
	keeps(t, s, "w.W", m, msg())
	strips(t, s, "w.W", m, m)
	for i, e := range m.Fields {
		f, _ := s.Field("w.W", e.Number)
		rest := slices.Delete(slices.Clone(m.Fields), i, i+1)
		for _, word := range []string{f.Name, f.Json} {
			keeps(t, s, "w.W", m, msg(e), word)
			strips(t, s, "w.W", m, msg(rest...), word)
			keeps(t, s, "w.W", one(ofV, one(2, m)), one(ofV, one(2, msg(e))), "of_v.w."+word)
			strips(t, s, "w.W", one(ofV, one(2, m)), one(ofV, one(2, msg(rest...))), "ofV.w."+word)
		}
		keeps(t, s, "w.W", msg(rest...), msg(), f.Name) // what is not there can't be kept
		strips(t, s, "w.W", msg(rest...), msg(rest...), f.Name)
		if f.Type != api.TMessage {
			maskRefuses(t, s, "w.W", m, api.ErrInto, f.Name+".s_3")
			maskRefuses(t, s, "w.W", m, api.ErrInto, f.Name+".z")
			maskRefuses(t, s, "w.W", msg(), api.ErrInto, "of_v.w."+f.Json+".z")
		}
	}
}

func TestMasksThroughMessages(t *testing.T) { // P1310, P1311: words that go on in a message, in each value of a list and of a map
	s := wideSchema()
	in := msg(at(3, num(3)), at(4, num(4)), at(17, one(3, num(33))))
	less := one(4, num(4))
	m := msg(at(17, in), at(optional+17, in), at(repeated+17, list(in, msg(), less)), at(mapped+17, dict(kv("", less), kv("a", in), kv("b", msg()))), at(member+17, in), at(far, num(1)))
	e := m.Fields
	three, none := one(3, num(3)), msg()
	keeps(t, s, "w.W", m, msg(at(17, three)), "s_17.s_3")
	keeps(t, s, "w.W", m, msg(at(optional+17, three)), "o_17.s_3")
	keeps(t, s, "w.W", m, msg(at(member+17, three)), "x17.s3")
	keeps(t, s, "w.W", m, msg(at(repeated+17, list(three, none, none))), "r_17.s_3")
	keeps(t, s, "w.W", m, msg(at(mapped+17, dict(kv("", none), kv("a", three), kv("b", none)))), "m_17.s_3")
	keeps(t, s, "w.W", m, msg(at(17, one(17, one(3, num(33))))), "s_17.s_17.s_3")
	keeps(t, s, "w.W", m, msg(at(17, one(17, none))), "s_17.s_17.s_4")
	keeps(t, s, "w.W", m, msg(at(17, none)), "s_17.of_v.w")
	keeps(t, s, "w.W", m, none, "of_v.w")
	keeps(t, s, "w.W", m, msg(at(repeated+17, list(msg(at(3, num(3)), at(4, num(4))), none, less)), e[5]), "r_17.s_3", "far", "r_17.s_4")

	four := msg(at(4, num(4)), at(17, one(3, num(33))))
	with := func(i int, v api.Value) api.Value {
		l := slices.Clone(e)
		l[i].Value = v
		return msg(l...)
	}
	strips(t, s, "w.W", m, with(0, four), "s_17.s_3")
	strips(t, s, "w.W", m, with(1, four), "o_17.s_3")
	strips(t, s, "w.W", m, with(2, list(four, none, less)), "r_17.s_3")
	strips(t, s, "w.W", m, with(3, dict(kv("", less), kv("a", four), kv("b", none))), "m_17.s_3")
	strips(t, s, "w.W", m, with(3, dict(kv("", none), kv("a", none), kv("b", none))), "m_17.s_3", "m_17.s_4", "m_17.s_17")
	strips(t, s, "w.W", m, with(4, four), "x_17.s_3")
	strips(t, s, "w.W", m, with(0, msg(at(3, num(3)), at(4, num(4)), at(17, none))), "s_17.s_17.s_3", "of_v.w")
	strips(t, s, "w.W", m, msg(e[0], e[1], e[3], e[4]), "r_17", "far", "r_17.s_3", "s_3")

	// Through lists and maps in one another, of other types.
	u := msg(at(1, num(1)), at(5, text("b")))
	v := one(listV, list(msg(at(1, num(1)), at(3, list(one(2, dict(pair(num(0), u), pair(num(1), msg())))))), one(1, num(2))))
	keeps(t, s, "w.W", v, one(listV, list(one(3, list(one(2, dict(pair(num(0), one(5, text("b"))), pair(num(1), msg()))))), msg())), "list_v.u.u.b")
	strips(t, s, "w.W", v, one(listV, list(msg(at(1, num(1)), at(3, list(one(2, dict(pair(num(0), one(5, text("b"))), pair(num(1), msg())))))), one(1, num(2)))), "listV.u.u.aB")
	keeps(t, s, "w.W", v, one(listV, list(one(1, num(1)), one(1, num(2)))), "list_v.a", "map_v.a", "of_u.u.u.u.v.w.far")
}

func TestMasksOfAll(t *testing.T) { // P1310, P1311: a path without words; a mask without paths
	s := smallSchema()
	for _, m := range []api.Value{msg(), example(), one(7, msg())} {
		keeps(t, s, "p.M", m, msg())
		keeps(t, s, "p.M", m, m, "")
		keeps(t, s, "p.M", m, m, "", "a")
		keeps(t, s, "p.M", m, m, "g.g.a", "")
		keeps(t, s, "p.M", m, m, "", "")
		strips(t, s, "p.M", m, m)
		strips(t, s, "p.M", m, msg(), "")
		strips(t, s, "p.M", m, msg(), "", "a")
		strips(t, s, "p.M", m, msg(), "g.g.a", "")
	}
	keeps(t, s, "p.M", example(), example(), "a", "b", "c", "d", "e", "f", "g")
	strips(t, s, "p.M", example(), msg(), "g", "f", "e", "d", "c", "b", "a")
	keeps(t, s, "p.M", one(7, msg()), one(7, msg()), "g.g")
	keeps(t, s, "p.M", one(6, num(0)), msg(), "g")
	keeps(t, s, "p.M", one(6, num(0)), one(6, num(0)), "g", "f")
	keeps(t, s, "p.M", one(5, num(0)), one(5, num(0)), "e")
}

func TestMasksBelowOthers(t *testing.T) { // P1312: paths below others, twice, in other orders, by other words
	s := wideSchema()
	in := msg(at(3, num(3)), at(4, num(4)), at(17, msg(at(3, num(33)), at(4, num(44)))))
	m := msg(at(3, num(1)), at(17, in), at(repeated+17, list(in, in)), at(mapped+17, dict(kv("a", in))))
	for _, set := range []struct{ mask, more []string }{
		{[]string{"s_17"}, []string{"s_17.s_3", "s17.s_17.s_4", "s17", "s_17", "s_17.of_v.w.of_v"}},
		{[]string{"s_17.s_17"}, []string{"s17.s17", "s_17.s17.s_3", "s_17.s_17.s_17.far"}},
		{[]string{"r_17.s_3", "m_17", "s_3"}, []string{"m_17.s_3", "m17.s17.s4", "r17.s3"}},
		{[]string{""}, []string{"s_3", "r_17.s_17.s_17", ""}},
		{[]string{"m_17.s_17.s_3", "m_17.s_4"}, []string{"m17.s17.s3", "m_17.s4"}},
	} {
		paths, _ := secondMask(s, "w.W", set.mask)
		kept, left := secondKept(m, paths, nil), secondLeft(m, paths, nil)
		if set.mask[0] == "" {
			left = msg()
		}
		all := slices.Concat(set.mask, set.more)
		for range len(all) {
			all = append(all[1:], all[0])
			keeps(t, s, "w.W", m, kept, all...)
			strips(t, s, "w.W", m, left, all...)
			back := slices.Clone(all)
			slices.Reverse(back)
			keeps(t, s, "w.W", m, kept, back...)
			strips(t, s, "w.W", m, left, back...)
		}
		for _, one := range set.more {
			keeps(t, s, "w.W", m, kept, append([]string{one}, set.mask...)...)
			strips(t, s, "w.W", m, left, append(slices.Clone(set.mask), one)...)
		}
	}
}

func TestFaultsOfMasks(t *testing.T) { // P1309: each fault, and two at a time: path by path, and in each ErrMask ahead of its words' faults
	s, m := smallSchema(), example()
	for p, e := range map[string]api.Errno{
		".": api.ErrMask, "a.": api.ErrMask, ".a": api.ErrMask, "a b": api.ErrMask, "1": api.ErrMask, "g..a": api.ErrMask, "é": api.ErrMask, "a,b": api.ErrMask, "*": api.ErrMask, "d.*": api.ErrMask, " ": api.ErrMask, "a\n": api.ErrMask, "[": api.ErrMask, "c[": api.ErrMask, "c[]": api.ErrMask,
		"c[0]": api.ErrMask, `d["k"]`: api.ErrMask, `d["k"].b`: api.ErrMask, "d[true].z": api.ErrMask, "z[0]": api.ErrMask, "a[0]": api.ErrMask, "c[-1]": api.ErrMask, "d[\"\\q\"]": api.ErrMask, "z.": api.ErrMask, "a.a.": api.ErrMask, "c.a[0]": api.ErrMask,
		"a.a": api.ErrInto, "a.z": api.ErrInto, "b.a": api.ErrInto, "c.a": api.ErrInto, "c.z": api.ErrInto, "e.a": api.ErrInto, "f.f": api.ErrInto, "g.a.z": api.ErrInto, "d.c.a": api.ErrInto, "d.d.a.a": api.ErrInto,
		"z": api.ErrNoField, "g.z": api.ErrNoField, "d.z": api.ErrNoField, "d.d.z.a": api.ErrNoField, "A": api.ErrNoField, "o": api.ErrNoField, "z.a": api.ErrNoField,
	} {
		for _, mask := range [][]string{{p}, {"", p}, {"a", "d.d.c", p, "b"}, {p, "."}, {p, "z"}, {p, "c.a"}, {p, p}, {p, ""}} {
			maskRefuses(t, s, "p.M", m, e, mask...)
			maskRefuses(t, s, "p.M", msg(), e, mask...)
		}
		maskRefuses(t, s, "p.M", m, api.ErrNoField, "z", p)
		maskRefuses(t, s, "p.M", m, api.ErrInto, "a.a", p)
		maskRefuses(t, s, "p.M", m, api.ErrMask, "c[0]", p)
	}
}

func TestLongMasks(t *testing.T) { // P1309: masks of MaxMask paths and of one more, paths of MaxPath bytes and of one more
	var b strings.Builder
	var mask []string
	var all []api.Entry
	for i := range api.MaxMask + 1 {
		fmt.Fprintf(&b, "int32 a%d = %d;", i, i+1)
		mask = append(mask, fmt.Sprint("a", i))
		all = append(all, at(i+1, num(1)))
	}
	s := load(t, `syntax = "proto3"; message M { `+b.String()+` M m = 100; }`)
	m := msg(all...)
	keeps(t, s, "M", m, msg(all[:api.MaxMask]...), mask[:api.MaxMask]...)
	strips(t, s, "M", m, msg(all[api.MaxMask:]...), mask[:api.MaxMask]...)
	maskRefuses(t, s, "M", m, api.ErrLong, mask...)
	maskRefuses(t, s, "M", m, api.ErrLong, make([]string, api.MaxMask+1)...)
	keeps(t, s, "M", m, m, make([]string, api.MaxMask)...)
	maskRefuses(t, s, "M", m, api.ErrLong, append(make([]string, api.MaxMask), ".")...)
	maskRefuses(t, s, "M", m, api.ErrMask, append(make([]string, api.MaxMask-1), ".")...)
	maskRefuses(t, s, "M", m, api.ErrLong, make([]string, 1<<20)...)
	most := strings.Repeat("m.", 510) + "a10"
	deep := chain(63, 100, m)
	keeps(t, s, "M", deep, chain(63, 100, msg()), most)
	strips(t, s, "M", deep, deep, most)
	for _, p := range []string{most + "0", strings.Repeat(".", api.MaxPath+1), strings.Repeat("\xff", 1<<20)} {
		maskRefuses(t, s, "M", m, api.ErrLong, p)
		maskRefuses(t, s, "M", m, api.ErrLong, ".", "z", p)
		maskRefuses(t, s, "M", m, api.ErrLong, p, ".")
	}
	maskRefuses(t, s, "M", m, api.ErrMask, strings.Repeat(".", api.MaxPath))
	maskRefuses(t, s, "M", m, api.ErrNoField, strings.Repeat("m.", 511)+"z")
	var long []string // MaxMask paths, nearly all of MaxPath bytes
	for i := range api.MaxMask {
		long = append(long, strings.Repeat("m.", 510)+fmt.Sprint("a", i))
	}
	keeps(t, s, "M", deep, chain(63, 100, msg()), long...)
	long[0] = "m.m.a7"
	two := func(v api.Value) api.Value { return chain(2, 100, msg(at(8, num(1)), at(100, chain(60, 100, v)))) }
	keeps(t, s, "M", two(m), two(msg()), long...)
}
