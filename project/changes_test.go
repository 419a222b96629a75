package project_test

import (
	"fmt"
	"math"
	"testing"

	"sigil/api"
	"sigil/bind"
	"sigil/project"
	"sigil/tree"
)

func TestGone(t *testing.T) { // P1502: a field that the new type has not, of every card
	for _, field := range []struct {
		text string
		v    api.Value
	}{
		{"int32 a = 5;", num(-1)}, {"optional int32 a = 5;", num(0)}, {"string a = 5;", text("x")}, {"repeated int32 a = 5;", list(num(0), num(1))}, {"repeated M a = 5;", list(msg(), one(1, num(1)))},
		{"map<int32, M> a = 5;", dict(pair(num(0), msg()), pair(num(1), one(1, num(1))))}, {"oneof o { M a = 5; int32 c = 6; }", one(1, num(1))}, {"oneof o { bytes a = 5; int32 c = 6; }", text("")}, {"M a = 5;", msg()},
	} {
		for _, now := range []string{"reserved 5, 6, 9; reserved 100 to 200;", "reserved 5 to 6; reserved 8 to 9;", "reserved 2 to 9;", "reserved 4 to max;"} {
			w := of(t, "message M { int32 n = 1; int32 z = 9; "+field.text+" }", "message M { int32 n = 1; "+now+" }")
			w.becomes(t, one(5, field.v), msg(), "5")
			w.becomes(t, msg(at(1, num(3)), at(5, field.v), at(9, num(4))), one(1, num(3)), "5", "9")
		}
	}
	// All that there was, and nothing that is.
	of(t, "message M { int32 a = 1; M m = 2; }", "message M { reserved 1 to 2; }").becomes(t, msg(at(1, num(1)), at(2, one(1, num(1)))), msg(), "1", "2")
	// New fields are not there.
	of(t, "message M { int32 a = 2; }", "message M { optional int32 x = 1; int64 a = 2; M m = 3; repeated M l = 4; }").becomes(t, one(2, num(1)), one(2, num(1)))
}

func TestZeros(t *testing.T) { // P1502: explicit fields that become implicit, and hold their zero or not; those that stay explicit
	for typ := api.TDouble; typ < api.TMessage; typ++ {
		zero, _ := tree.Zero(typ)
		for _, old := range []string{"optional %s a = 1;", "oneof o { %s a = 1; }", "oneof o { %s a = 1; M b = 2; }"} {
			text := func(form string) string {
				return "enum E { Z = 0; } message M { " + fmt.Sprintf(form, words[typ]) + " }"
			}
			implicit := of(t, text(old), text("%s a = 1; M b = 2;"))
			if implicit.plan(t).Whole() {
				t.Errorf("P1504: %s to implicit is Whole", old)
			}
			for _, now := range []string{"optional %s a = 1; M b = 2;", "oneof p { %s a = 1; } M b = 2;", "oneof p { %s a = 1; } oneof q { M b = 2; }", "oneof p { M b = 2; %s a = 1; }"} {
				w := of(t, text(old), text(now))
				for _, v := range samples(typ) {
					w.becomes(t, one(1, v), one(1, v))
				}
				if !w.plan(t).Whole() {
					t.Errorf("P1504: %s to %s is not Whole", old, now)
				}
			}
			listed := of(t, text(old), text("repeated %s a = 1; M b = 2;"))
			for _, v := range samples(typ) {
				listed.becomes(t, one(1, v), one(1, list(v)))
				if tree.Equal(v, zero) {
					implicit.becomes(t, one(1, v), msg(), "1")
				} else {
					implicit.becomes(t, one(1, v), one(1, v))
				}
			}
		}
	}
}

func TestNoZeros(t *testing.T) { // P1502: a float's or double's -0 is no zero; messages without fields are kept by every card
	w := of(t, "message M { optional float f = 1; optional double d = 2; }", "message M { float f = 1; double d = 2; }")
	v := msg(at(1, num(1<<31)), at(2, num(math.MinInt)))
	w.becomes(t, v, v)
	w.becomes(t, msg(at(1, num(0)), at(2, num(0))), msg(), "1", "2")
	for _, old := range []string{"N n = 1;", "optional N n = 1;", "oneof o { N n = 1; }", "oneof o { N n = 1; bool b = 2; }"} {
		for _, now := range []string{"N n = 1;", "optional N n = 1;", "oneof o { N n = 1; }", "oneof o { N n = 1; bool b = 2; }"} {
			w := of(t, "message N { } message M { "+old+" }", "message N { } message M { reserved 3; "+now+" bool y = 4; }")
			if old == "oneof o { N n = 1; bool b = 2; }" && now != old {
				w.fails(t, api.ErrCompat)
				continue
			}
			w.becomes(t, one(1, msg()), one(1, msg()))
			if !w.plan(t).Whole() {
				t.Errorf("P1504: %s to %s is not Whole", old, now)
			}
		}
		w := of(t, "message N { } message M { "+old+" }", "message N { } message M { repeated N n = 1; reserved 2; }")
		w.becomes(t, one(1, msg()), one(1, list(msg())))
	}
}

func TestIntoLists(t *testing.T) { // P1502: single and optional fields and members of oneofs become lists, with zeros too; what lies in them is read
	w := of(t, "message M { int32 a = 1; optional int32 b = 2; oneof o { bool c = 3; M d = 4; string e = 5; } M f = 6; optional M g = 7; optional bytes h = 8; string i = 9; }",
		"message M { repeated int64 a = 1; repeated E b = 2; repeated uint32 c = 3; repeated M d = 4; repeated bytes e = 5; repeated M f = 6; repeated M g = 7; repeated bytes h = 8; repeated string i = 9; } enum E { Z = 0; }")
	w.becomes(t, one(1, num(-1)), one(1, list(num(-1))))
	w.becomes(t, one(2, num(0)), one(2, list(num(0))))
	w.becomes(t, one(3, num(0)), one(3, list(num(0))))
	w.becomes(t, one(3, num(1)), one(3, list(num(1))))
	w.becomes(t, one(4, msg()), one(4, list(msg())))
	w.becomes(t, one(5, text("")), one(5, list(text(""))))
	w.becomes(t, one(6, one(7, one(4, one(2, num(0))))), one(6, list(one(7, list(one(4, list(one(2, list(num(0))))))))))
	w.becomes(t, msg(at(1, num(1)), at(2, num(0)), at(6, msg()), at(8, text("")), at(9, text("x"))), msg(at(1, list(num(1))), at(2, list(num(0))), at(6, list(msg())), at(8, list(text(""))), at(9, list(text("x")))))
	if !w.plan(t).Whole() {
		t.Error("P1504: fields that become lists are not Whole")
	}
}

func TestLists(t *testing.T) { // P1502: lists, also of zeros and of messages in which something is lost
	w := of(t, "message M { repeated int32 a = 1; repeated bool b = 2; repeated string c = 3; repeated M d = 4; optional int32 e = 5; repeated double f = 6; int32 g = 7; }",
		"message M { repeated int64 a = 1; repeated uint64 b = 2; repeated bytes c = 3; repeated M d = 4; int32 e = 5; repeated double f = 6; reserved 7; }")
	w.becomes(t, one(1, list(num(0), num(-1), num(0))), one(1, list(num(0), num(-1), num(0))))
	w.becomes(t, one(2, list(num(1), num(0), num(1))), one(2, list(num(1), num(0), num(1))))
	w.becomes(t, one(3, list(text(""), text("b"), text("a"))), one(3, list(text(""), text("b"), text("a"))))
	w.becomes(t, one(6, list(num(0), num(math.MinInt))), one(6, list(num(0), num(math.MinInt))))
	w.becomes(t, one(4, list(msg(), one(5, num(0)), one(5, num(1)), one(7, num(1)), one(4, list(one(5, num(0)))))),
		one(4, list(msg(), msg(), one(5, num(1)), msg(), one(4, list(msg())))), "4.1.5", "4.3.7", "4.4.4.0.5")
}

func TestMaps(t *testing.T) { // P1502: maps: keys and values stay, also zeros; values that are messages are read
	w := of(t, "message M { map<bool, bool> a = 1; map<uint32, string> b = 2; map<sint32, N> c = 3; map<string, E> d = 4; map<fixed64, int32> e = 5; } message N { optional int32 x = 1; repeated N l = 2; map<int32, N> m = 3; int32 y = 4; } enum E { Z = 0; }",
		"message M { map<uint64, int32> a = 1; map<uint64, bytes> b = 2; map<sint64, O> c = 3; map<string, int64> d = 4; map<fixed64, E> e = 5; } message O { int32 x = 1; repeated O l = 2; map<int64, O> m = 3; reserved 4; } enum E { Z = 0; }")
	for _, v := range []api.Value{
		one(1, dict(pair(num(0), num(0)), pair(num(1), num(1)))), one(1, dict(pair(num(1), num(0)))),
		one(2, dict(pair(num(0), text("")), pair(num(1), text("é")), pair(num(math.MaxUint32), text("x")))),
		one(4, dict(pair(text(""), num(-1)), pair(text("a"), num(0)), pair(text("a\x00"), num(math.MaxInt32)))),
		one(5, dict(pair(num(0), num(0)), pair(num(1), num(-5)), pair(num(-1), num(7)))),
		one(3, dict(pair(num(math.MinInt32), msg()), pair(num(-1), one(1, num(3))), pair(num(0), one(2, list(msg()))))),
	} {
		w.becomes(t, v, v)
	}
	w.becomes(t, one(3, dict(pair(num(-1), one(1, num(0))), pair(num(0), one(4, num(4))), pair(num(1), one(3, dict(pair(num(5), msg(at(1, num(0)), at(4, num(1))))))))),
		one(3, dict(pair(num(-1), msg()), pair(num(0), msg()), pair(num(1), one(3, dict(pair(num(5), msg())))))), "3.0.2.1", "3.1.2.4", "3.2.2.3.0.2.1", "3.2.2.3.0.2.4")
}

func TestOutOfOneofs(t *testing.T) { // P1502: members that leave their oneof, and that stay
	w := of(t, "message M { oneof o { int32 a = 1; int32 b = 2; int32 c = 3; M d = 4; string e = 5; int32 f = 6; } int32 g = 7; }",
		"message M { int32 a = 1; optional int32 b = 2; repeated int32 c = 3; M d = 4; oneof p { string e = 5; int32 f = 6; } oneof q { int32 g = 7; int32 z = 8; } }")
	w.becomes(t, one(1, num(0)), msg(), "1")
	w.becomes(t, one(1, num(1)), one(1, num(1)))
	w.becomes(t, one(2, num(0)), one(2, num(0)))
	w.becomes(t, one(3, num(0)), one(3, list(num(0))))
	w.becomes(t, one(4, msg()), one(4, msg()))
	w.becomes(t, one(4, one(1, num(0))), one(4, msg()), "4.1")
	w.becomes(t, one(5, text("")), one(5, text("")))
	w.becomes(t, msg(at(6, num(0)), at(7, num(1))), msg(at(6, num(0)), at(7, num(1))))
}

func TestWidened(t *testing.T) { // P1502: a number stays the number that it is, at the bounds of its type
	for _, c := range []struct {
		old, now string
		l        []int
	}{
		{"int32", "int64", []int{math.MinInt32, -1, 1, math.MaxInt32}}, {"uint32", "uint64", []int{1, 1 << 31, math.MaxUint32}}, {"sint32", "sint64", []int{math.MinInt32, -1, 1, math.MaxInt32}},
		{"bool", "int32", []int{1}}, {"bool", "int64", []int{1}}, {"bool", "uint32", []int{1}}, {"bool", "uint64", []int{1}},
		{"E", "int32", []int{math.MinInt32, -1, 1, 77, math.MaxInt32}}, {"E", "int64", []int{math.MinInt32, -1, 1, 77, math.MaxInt32}}, {"int32", "E", []int{math.MinInt32, -1, 1, 77, math.MaxInt32}}, {"E", "E", []int{math.MinInt32, 5}},
		{"fixed64", "fixed64", []int{1, -1}}, {"uint64", "uint64", []int{1, -1}},
	} {
		text := func(typ string) string {
			return fmt.Sprintf("enum E { Z = 0; } message M { %[1]s a = 1; optional %[1]s b = 2; repeated %[1]s c = 3; map<int32, %[1]s> d = 4; oneof o { %[1]s e = 5; } }", typ)
		}
		w := of(t, text(c.old), text(c.now))
		for _, n := range c.l {
			v := msg(at(1, num(n)), at(2, num(n)), at(3, list(num(n), num(0))), at(4, dict(pair(num(1), num(0)), pair(num(2), num(n)))), at(5, num(n)))
			w.becomes(t, v, v)
		}
		zeros := msg(at(2, num(0)), at(3, list(num(0))), at(4, dict(pair(num(0), num(0)))), at(5, num(0)))
		w.becomes(t, zeros, zeros)
	}
	of(t, "message M { string a = 1; repeated string b = 2; }", "message M { bytes a = 1; repeated bytes b = 2; }").becomes(t, msg(at(1, text("é\x00")), at(2, list(text("")))), msg(at(1, text("é\x00")), at(2, list(text("")))))
}

func TestThemselves(t *testing.T) { // P1502: types that hold themselves and one another; the new type of a message is the one that meets it, which hangs on the way to it
	w := of(t, "message M { M m = 1; optional int32 x = 2; }", "message M { N m = 1; optional int32 x = 2; } message N { O m = 1; int32 x = 2; } message O { M m = 1; reserved 2; }")
	x := func(n int) api.Entry { return at(2, num(n)) }
	w.becomes(t, msg(at(1, msg(at(1, msg(at(1, msg(at(1, msg(x(0))), x(0))), x(0))), x(0))), x(0)),
		msg(at(1, one(1, one(1, msg(at(1, msg()), x(0))))), x(0)), "1.1.1.1.2", "1.1.2", "1.2")
	w.becomes(t, msg(at(1, msg(at(1, msg(x(5))), x(5))), x(5)), msg(at(1, msg(at(1, msg()), x(5))), x(5)), "1.1.2")
	// Two that hold one another, in every way, against one that holds itself.
	w = between(t, "message A { B b = 1; repeated B l = 2; map<int32, B> d = 3; optional int32 x = 9; } message B { A b = 1; repeated A l = 2; map<int32, A> d = 3; int64 x = 9; }", "A",
		"message C { C b = 1; repeated C l = 2; map<int32, C> d = 3; int64 x = 9; }", "C")
	v := msg(at(1, msg(at(2, list(msg(at(9, num(0))), msg())), at(3, dict(pair(num(4), msg(at(1, msg(at(9, num(7)))), at(9, num(0)))))))), at(9, num(0)))
	w.becomes(t, v, msg(at(1, msg(at(2, list(msg(), msg())), at(3, dict(pair(num(4), msg(at(1, msg(at(9, num(7))))))))))), "1.2.0.9", "1.3.0.2.9", "9")
	// One type that meets two, each at its own field.
	w = of(t, "message M { N a = 1; N b = 2; } message N { int32 x = 1; int32 y = 2; }", "message M { P a = 1; Q b = 2; } message P { int32 x = 1; reserved 2; } message Q { reserved 1; repeated int64 y = 2; }")
	n := msg(at(1, num(1)), at(2, num(2)))
	w.becomes(t, msg(at(1, n), at(2, n)), msg(at(1, one(1, num(1))), at(2, one(2, list(num(2))))), "1.2", "2.1")
	// Two types that meet one, by which each becomes something else.
	w = of(t, "message M { P a = 1; Q b = 2; P c = 3; } message P { int32 x = 1; optional int32 y = 2; P p = 4; } message Q { repeated int32 x = 1; int64 z = 3; repeated Q p = 4; }", "message M { N a = 1; N b = 2; N c = 3; } message N { repeated int64 x = 1; int32 y = 2; optional int64 z = 3; repeated N p = 4; }")
	w.becomes(t, msg(at(1, msg(at(1, num(1)), at(2, num(0)), at(4, one(1, num(2))))), at(2, msg(at(1, list(num(3), num(0))), at(3, num(4)), at(4, list(one(1, list(num(5))))))), at(3, one(1, num(6)))),
		msg(at(1, msg(at(1, list(num(1))), at(4, list(one(1, list(num(2))))))), at(2, msg(at(1, list(num(3), num(0))), at(3, num(4)), at(4, list(one(1, list(num(5))))))), at(3, one(1, list(num(6))))), "1.2")
	// Two pairs whose names, one behind the other, are the same text.
	w = of(t, "message M { A a = 1; AB b = 2; } message A { int32 x = 1; } message AB { int32 x = 1; }", "message M { BC a = 1; C b = 2; } message BC { reserved 1; } message C { repeated int32 x = 1; }")
	w.becomes(t, msg(at(1, one(1, num(1))), at(2, one(1, num(2)))), msg(at(1, msg()), at(2, one(1, list(num(2))))), "1.1")
	// The same names, turned round.
	w = of(t, "message M { A a = 1; B b = 2; } message A { int32 x = 1; } message B { int32 x = 1; }", "message M { B a = 1; A b = 2; } message A { repeated int32 x = 1; } message B { reserved 1; }")
	w.becomes(t, msg(at(1, one(1, num(1))), at(2, one(1, num(2)))), msg(at(1, msg()), at(2, one(1, list(num(2))))), "1.1")
}

func TestDeep(t *testing.T) { // P1502, P7: trees as deep as they may be, by each card, and one deeper
	w := of(t, "message M { M m = 1; optional bool b = 2; map<bool, M> d = 3; repeated M l = 4; oneof o { M n = 5; } int32 z = 6; }",
		"message M { repeated M m = 1; bool b = 2; map<uint64, M> d = 3; repeated M l = 4; M n = 5; reserved 6; }")
	for _, number := range []int{1, 3, 4, 5} {
		v, want, trail := msg(at(2, num(0)), at(6, num(1))), msg(), ""
		for range api.MaxDepth - 1 {
			switch number {
			case 1:
				v, want, trail = one(1, v), one(1, list(want)), "1."+trail
			case 3:
				v, want, trail = one(3, dict(pair(num(1), v))), one(3, dict(pair(num(1), want))), "3.0.2."+trail
			case 4:
				v, want, trail = one(4, list(v)), one(4, list(want)), "4.0."+trail
			default:
				v, want, trail = one(5, v), one(5, want), "5."+trail
			}
		}
		w.becomes(t, v, want, trail+"2", trail+"6")
		refuses(t, w.plan(t), one(1, v), api.ErrDepth)
	}
	// The deepest values of all: a map in the last of 64 messages in maps.
	m := of(t, "message M { map<bool, M> d = 3; map<string, bool> e = 4; }", "message M { map<int32, M> d = 3; map<string, int64> e = 4; }")
	v := one(4, dict(pair(text("k"), num(1))))
	for range api.MaxDepth - 1 {
		v = one(3, dict(pair(num(0), v)))
	}
	m.becomes(t, v, v)
	refuses(t, m.plan(t), one(3, dict(pair(num(0), v))), api.ErrDepth)
}

// form is a form of the field 1 of a message M: its card (0: a member of a oneof), type and key.
type form struct{ card, typ, key int }

// forms are all of them: each type with each card, each key with a number and a message.
func forms() []form {
	var l []form
	for typ := api.TDouble; typ <= api.TMessage; typ++ {
		for card := 0; card < api.CMap; card++ {
			l = append(l, form{card, typ, 0})
		}
		l = append(l, form{api.CMap, typ, api.TBool})
	}
	for _, key := range keyTypes {
		l = append(l, form{api.CMap, api.TInt32, key}, form{api.CMap, api.TMessage, key})
	}
	return l
}

// text is the schema of a form; the field 2 is as it is said.
func (f form) text(second string) string {
	typ := words[f.typ]
	switch f.card {
	case 0:
		typ = "oneof o { " + typ + " a = 1; }"
	case api.CSingle:
		typ += " a = 1;"
	case api.COptional:
		typ = "optional " + typ + " a = 1;"
	case api.CRepeated:
		typ = "repeated " + typ + " a = 1;"
	case api.CMap:
		typ = fmt.Sprintf("map<%s, %s> a = 1;", words[f.key], typ)
	}
	return "message M { " + typ + " " + second + " } enum E { Z = 0; }"
}

// trees are normal trees with the field of the form.
func (f form) trees(t *testing.T, s *bind.Schema) []api.Value {
	values := samples(f.typ)
	l := []api.Value{msg(), one(2, num(0))}
	switch f.card {
	case api.CRepeated:
		l = append(l, one(1, list(values...)))
		for _, v := range values {
			l = append(l, one(1, list(v)), one(1, list(v, values[0])))
		}
	case api.CMap:
		all := dict()
		for i, k := range samples(f.key) {
			all.List = append(all.List, pair(k, values[i%len(values)]))
			l = append(l, one(1, dict(pair(k, values[0]))), one(1, dict(pair(k, values[len(values)-1]))))
		}
		l = append(l, one(1, all))
	default:
		for _, v := range values {
			l = append(l, one(1, v), msg(at(1, v), at(2, num(0))), msg(at(1, v), at(2, num(1))))
		}
	}
	for i, v := range l {
		var e api.Errno
		if l[i], _, e = tree.Normalise(s, "M", v); e != api.OK {
			t.Fatal(e)
		}
	}
	return l
}

// judged looks whether a plan makes of a tree what loose reads, and tells as lost what that has not; it tells both.
func (w way) judged(t *testing.T, p *project.Plan, v api.Value) (api.Value, []string) {
	t.Helper()
	want, e := w.decoded(t, v)
	if e != api.OK {
		t.Fatalf("%s is not read: %v", short(v), e)
	}
	lost := missing(v, want)
	w.makes(t, p, v, want, lost...)
	return want, lost
}

func TestEveryChange(t *testing.T) { // P1505 to P1507: every change of a field that the rules let pass, with the values at the bounds of its type
	all := forms()
	var old, now []*bind.Schema
	for _, f := range all {
		old = append(old, load(t, f.text("optional int32 b = 2;")))
		now = append(now, load(t, f.text("int32 b = 2;")))
	}
	count := 0
	for i, f := range all {
		trees := f.trees(t, old[i])
		for k := range all {
			w := way{old[i], "M", now[k], "M"}
			p, e := project.New(w.from, w.wrote, w.to, w.reads)
			if e == api.ErrCompat {
				continue
			}
			if e != api.OK {
				t.Fatal(e)
			}
			count++
			var kept told
			for _, v := range trees {
				made, lost := w.judged(t, p, v)
				kept.add(t, v, made, lost)
			}
			if t.Failed() {
				t.Fatalf("%s to %s", f.text(""), all[k].text(""))
			}
		}
	}
	if count < 400 {
		t.Errorf("%d changes: too few", count)
	}
}
