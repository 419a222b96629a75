package path_test

import (
	"fmt"
	"testing"

	"sigil/api"
)

// zeroOf and someOf are the zero of a type, and a value of it that is none.
func zeroOf(typ int) api.Value {
	switch typ {
	case api.TString, api.TBytes:
		return text("")
	case api.TMessage:
		return msg()
	}
	return num(0)
}

func someOf(typ int) api.Value {
	switch typ {
	case api.TString, api.TBytes:
		return text("x")
	case api.TMessage:
		return one(api.TBool, num(1))
	}
	return num(1)
}

func TestGetOfTypes(t *testing.T) { // P1306: what stands there, of every type and card; zeros too where they may be
	s := wideSchema()
	for typ := api.TDouble; typ <= api.TMessage; typ++ {
		zero, some := zeroOf(typ), someOf(typ)
		of := func(form string) string { return fmt.Sprintf(form, typ) }
		m := msg(at(single+typ, some), at(optional+typ, zero), at(repeated+typ, list(zero, some)), at(mapped+typ, dict(kv("", some), kv("a", zero))), at(member+typ, zero))
		gets(t, s, "w.W", m, of("s_%d"), some)
		gets(t, s, "w.W", m, of("o%d"), zero)
		gets(t, s, "w.W", m, of("x_%d"), zero)
		gets(t, s, "w.W", m, of("r_%d"), list(zero, some))
		gets(t, s, "w.W", m, of("r%d[0]"), zero)
		gets(t, s, "w.W", m, of("r_%d[1]"), some)
		lacks(t, s, "w.W", m, of("r_%d[2]"))
		lacks(t, s, "w.W", m, of("r_%d[4194303]"))
		gets(t, s, "w.W", m, of("m_%d"), dict(kv("", some), kv("a", zero)))
		gets(t, s, "w.W", m, of(`m_%d[""]`), some)
		gets(t, s, "w.W", m, of(`m_%d["a"]`), zero)
		gets(t, s, "w.W", m, of(`m_%d["\x61"]`), zero)
		lacks(t, s, "w.W", m, of(`m_%d["b"]`))
		lacks(t, s, "w.W", m, of(`m_%d["A"]`))
		for _, p := range []string{"s_%d", "o_%d", "x_%d", "r_%d", "r_%d[0]", "m_%d", `m_%d[""]`} {
			lacks(t, s, "w.W", msg(at(far, num(1))), of(p))
			lacks(t, s, "w.W", m, "of_v.w."+of(p))
		}
		gets(t, s, "w.W", m, "", m)
	}
}

func TestGetOfKeys(t *testing.T) { // P1306: a pair with the key, of every type of keys
	s := wideSchema()
	for _, typ := range keyTypes {
		if typ == api.TBool || typ == api.TString {
			continue
		}
		least, most, _, _ := boundsOf(typ)
		name := fmt.Sprintf("k_%d", typ)
		pairs := []api.Value{pair(num(3), num(30)), pair(num(5), num(50)), pair(num(most.num), num(70))}
		if least.num < 0 {
			pairs = append([]api.Value{pair(num(least.num), num(10)), pair(num(-1), num(20))}, pairs...)
		}
		m := one(keyed+typ, dict(pairs...))
		gets(t, s, "w.W", m, name+"[3]", num(30))
		gets(t, s, "w.W", m, name+"[5]", num(50))
		gets(t, s, "w.W", m, name+"["+most.digits+"]", num(70))
		if least.num < 0 {
			gets(t, s, "w.W", m, name+"["+least.digits+"]", num(10))
			gets(t, s, "w.W", m, name+"[-1]", num(20))
		}
		for _, k := range []string{"0", "1", "4", "6"} {
			lacks(t, s, "w.W", m, name+"["+k+"]")
		}
	}
	m := one(keyed+api.TBool, dict(pair(num(1), num(9))))
	gets(t, s, "w.W", m, "k_13[true]", num(9))
	lacks(t, s, "w.W", m, "k_13[false]")
}

func TestBelowNothing(t *testing.T) { // P1306: whatever stands below something that is not there is not there
	s := smallSchema()
	for _, p := range []string{"a", "b", "c", "c[0]", "d", `d["k"]`, `d["k"].a`, `d["k"].d["k"].c[0]`, "e", "f", "g", "g.g", "g.g.g.g.c[4194303]", "g.d[\"\"].g.a"} {
		lacks(t, s, "p.M", msg(), p)
		lacks(t, s, "p.M", one(7, msg()), "g."+p)
		lacks(t, s, "p.M", one(4, dict(kv("x", msg()))), `d["x"].`+p)
		lacks(t, s, "p.M", one(4, dict(kv("x", example()))), `d["y"].`+p)
	}
	m := example()
	gets(t, s, "p.M", m, `d["k"]`, one(2, text("x")))
	gets(t, s, "p.M", m, `d["k"].b`, text("x"))
	gets(t, s, "p.M", m, "g", one(1, num(7)))
	lacks(t, s, "p.M", m, "f") // the other member of the oneof
	gets(t, s, "p.M", one(6, num(0)), "f", num(0))
	lacks(t, s, "p.M", one(6, num(0)), "g.a")
}

func TestClearOfTypes(t *testing.T) { // P1308: what goes, of every type and card; lists and maps that are empty then, and not the messages around
	s := wideSchema()
	for typ := api.TDouble; typ <= api.TMessage; typ++ {
		zero, some := zeroOf(typ), someOf(typ)
		of := func(form string) string { return fmt.Sprintf(form, typ) }
		head, end := at(api.TBool, num(1)), at(far, num(1))
		if typ == api.TBool {
			head = at(api.TFloat, num(1))
		}
		around := func(e ...api.Entry) []api.Value { // alone, beside others, in messages
			both := append(append([]api.Entry{head}, e...), end)
			if len(e) > 0 && e[0].Number < head.Number {
				both = append(append([]api.Entry{}, e...), head, end)
			}
			return []api.Value{msg(e...), msg(both...), one(ofV, one(2, msg(e...))), one(repeated+api.TMessage, list(msg(), msg(both...), msg(head)))}
		}
		for _, c := range []struct {
			p           string
			from, clear []api.Value
		}{
			{of("s_%d"), around(at(single+typ, some)), around()},
			{of("o_%d"), around(at(optional+typ, zero)), around()},
			{of("x_%d"), around(at(member+typ, zero)), around()},
			{of("r_%d"), around(at(repeated+typ, list(some, zero))), around()},
			{of("r_%d[0]"), around(at(repeated+typ, list(some, zero))), around(at(repeated+typ, list(zero)))},
			{of("r_%d[1]"), around(at(repeated+typ, list(some, zero))), around(at(repeated+typ, list(some)))},
			{of("r_%d[1]"), around(at(repeated+typ, list(some, zero, some, some))), around(at(repeated+typ, list(some, some, some)))},
			{of("r_%d[0]"), around(at(repeated+typ, list(zero))), around()},
			{of("m_%d"), around(at(mapped+typ, dict(kv("a", some), kv("b", zero)))), around()},
			{of(`m_%d["a"]`), around(at(mapped+typ, dict(kv("a", some), kv("b", zero)))), around(at(mapped+typ, dict(kv("b", zero))))},
			{of(`m_%d["b"]`), around(at(mapped+typ, dict(kv("a", some), kv("b", zero), kv("c", zero)))), around(at(mapped+typ, dict(kv("a", some), kv("c", zero))))},
			{of(`m_%d["a"]`), around(at(mapped+typ, dict(kv("a", zero)))), around()},
		} {
			for i, ahead := range []string{"", "", "of_v.w.", "r_17[1]."} {
				clears(t, s, "w.W", c.from[i], ahead+c.p, c.clear[i])
			}
		}
	}
}

func TestClearAll(t *testing.T) { // P1308: the path without steps; messages that are empty then stay
	s := smallSchema()
	for _, m := range []api.Value{msg(), example(), one(7, msg())} {
		clears(t, s, "p.M", m, "", msg())
	}
	clears(t, s, "p.M", one(7, one(1, num(1))), "g.a", one(7, msg()))
	clears(t, s, "p.M", one(7, msg()), "g", msg())
	clears(t, s, "p.M", one(4, dict(kv("k", one(1, num(1))))), `d["k"].a`, one(4, dict(kv("k", msg()))))
	clears(t, s, "p.M", one(4, dict(kv("k", one(4, dict(kv("l", msg())))))), `d["k"].d["l"]`, one(4, dict(kv("k", msg()))))
	clears(t, s, "p.M", one(4, dict(kv("k", one(3, list(num(0)))))), `d["k"].c[0]`, one(4, dict(kv("k", msg()))))
	m := example()
	clears(t, s, "p.M", m, "g", msg(m.Fields[:3]...))
	clears(t, s, "p.M", m, "a", msg(m.Fields[1:]...))
	for _, p := range []string{"b", "c[2]", "c[4194303]", `d["j"]`, `d["k"].a`, `d["k"].c[0]`, "e", "f", "g.b", "g.g", "g.g.a"} {
		clearRefuses(t, s, "p.M", m, p, api.ErrAbsent)
	}
}
