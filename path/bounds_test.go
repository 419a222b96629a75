package path_test

import (
	"fmt"
	"strings"
	"testing"

	"sigil/api"
	"sigil/path"
)

// many is a list of so many numbers.
func many(n int) api.Value {
	l := make([]api.Value, n)
	for i := range l {
		l[i] = num(1)
	}
	return list(l...)
}

// like looks whether a tree is as another one; the lists of both may be long.
func like(t *testing.T, what string, got api.Value, e api.Errno, want api.Value) {
	t.Helper()
	if e != api.OK || !same(got, want) {
		t.Errorf("%s: %s, %v, want %s", what, short(got), e, short(want))
	}
}

func TestMostValues(t *testing.T) { // P6: trees of MaxValues values, and of one more
	s := smallSchema()
	l := many(api.MaxValues - 1)
	most := one(3, list(l.List[:api.MaxValues-2]...)) // a message, a list, its numbers
	over := one(3, l)

	v, ok, e := path.Get(s, "p.M", most, "c[4194301]")
	if !ok {
		t.Errorf("P1306: the last of many values is not there")
	}
	like(t, "P1306: Get", v, e, num(1))
	lacks(t, s, "p.M", most, "c[4194302]")
	v, e = path.Clear(s, "p.M", most, "c[4194301]")
	like(t, "P1308: Clear", v, e, one(3, list(l.List[:api.MaxValues-3]...)))
	v, e = path.Keep(s, "p.M", most, []string{"c", "a"})
	like(t, "P1310: Keep", v, e, most)
	v, e = path.Strip(s, "p.M", most, []string{"d.c", "c"})
	like(t, "P1311: Strip", v, e, msg())
	leaves, e := path.Leaves(s, "p.M", most)
	if e != api.OK || len(leaves) != api.MaxValues-2 || leaves[0] != "c[0]" || leaves[len(leaves)-1] != "c[4194301]" {
		t.Errorf("P1313: Leaves of many values: %d, %v", len(leaves), e)
	}
	getRefuses(t, s, "p.M", over, "c", api.ErrLong)
	clearRefuses(t, s, "p.M", over, "c", api.ErrLong)
	maskRefuses(t, s, "p.M", over, api.ErrLong, "c")
	leavesRefuse(t, s, "p.M", over, api.ErrLong)
	setRefuses(t, s, "p.M", over, "a", num(1), api.ErrLong)
	setRefuses(t, s, "p.M", over, "c", list(), api.ErrLong)
}

func TestMostValuesSet(t *testing.T) { // P1307: ErrLong, if the tree has more than MaxValues values then; as many may be
	s := smallSchema()
	l := many(api.MaxValues - 1)
	most := one(3, list(l.List[:api.MaxValues-2]...))
	v, e := path.Set(s, "p.M", most, "c[0]", num(7))
	if e != api.OK || len(v.Fields) != 1 || len(v.Fields[0].Value.List) != api.MaxValues-2 || v.Fields[0].Value.List[0].Num != 7 || v.Fields[0].Value.List[1].Num != 1 {
		t.Errorf("P1307: Set in MaxValues values: %s, %v", short(v), e)
	}
	setRefuses(t, s, "p.M", most, "c[4194302]", num(7), api.ErrLong)
	setRefuses(t, s, "p.M", most, "c[4194303]", num(7), api.ErrIndex)
	setRefuses(t, s, "p.M", most, "a", num(1), api.ErrLong)
	setRefuses(t, s, "p.M", most, "a", text("1"), api.ErrType)
	setRefuses(t, s, "p.M", most, "g.a", num(0), api.ErrLong) // the message comes to be there
	setRefuses(t, s, "p.M", most, "g", chain(100, 7, msg()), api.ErrLong)
	v, e = path.Set(s, "p.M", most, "a", num(0))
	like(t, "P1307: Set of a zero", v, e, most)
	v, e = path.Set(s, "p.M", most, "c", list(num(3)))
	like(t, "P1307: Set of a short list", v, e, one(3, list(num(3))))
	v, e = path.Set(s, "p.M", example(), "", most)
	like(t, "P1307: Set of all", v, e, most)
	v, e = path.Set(s, "p.M", msg(), "c", list(l.List[:api.MaxValues-2]...))
	like(t, "P1307: Set of a long list", v, e, most)
	setRefuses(t, s, "p.M", one(1, num(1)), "c", list(l.List[:api.MaxValues-2]...), api.ErrLong)
	setRefuses(t, s, "p.M", msg(), "c", l, api.ErrLong) // MaxValues values by itself, too many in a message
	setRefuses(t, s, "p.M", msg(), "b", l, api.ErrType)
	setRefuses(t, s, "p.M", msg(), "", l, api.ErrType)
	longer := list(append(l.List, num(1))...) // too many by itself: ahead of all but the name and the tree
	setRefuses(t, s, "p.M", msg(), "b", longer, api.ErrLong)
	setRefuses(t, s, "p.M", one(1, num(0)), ".", longer, api.ErrLong)
	l.List[len(l.List)-1] = text("")
	setRefuses(t, s, "p.M", msg(), "c", l, api.ErrType)
}

func TestManyMessagesSet(t *testing.T) { // P1307: a list of MaxValues values that are messages: what is wrong with the last of them goes ahead of ErrIndex and ErrLong
	var b strings.Builder
	for i := range 500 {
		fmt.Fprintf(&b, "int32 a%d = %d;", i, i+10)
	}
	s := load(t, `syntax = "proto3"; message M { repeated M l = 1; map<int32, M> m = 2; `+b.String()+`}`)
	l := make([]api.Value, api.MaxValues-2)
	for i := range l {
		l[i] = msg()
	}
	v, e := path.Set(s, "M", msg(), "l", list(l...))
	like(t, "P1307: Set of many messages", v, e, one(1, list(l...)))
	last := &l[len(l)-1]
	*last = one(10, num(1))
	setRefuses(t, s, "M", msg(), "l", list(l...), api.ErrLong)
	setRefuses(t, s, "M", msg(), "l[1].l", list(l...), api.ErrIndex)
	*last = one(10, num(0))
	setRefuses(t, s, "M", msg(), "l[1].l", list(l...), api.ErrNormal)
	*last = one(10, text(""))
	setRefuses(t, s, "M", msg(), "l[1].l", list(l...), api.ErrType)
}

func TestMostNesting(t *testing.T) { // P6: 200 and 201 values in one another, in the tree and in what is set
	s := smallSchema()
	for n, e := range map[int]api.Errno{199: api.ErrType, 200: api.ErrDepth} {
		v := nested(n, num(0))
		getRefuses(t, s, "p.M", v, "a", e)
		clearRefuses(t, s, "p.M", v, "a", e)
		maskRefuses(t, s, "p.M", v, e, "a")
		leavesRefuse(t, s, "p.M", v, e)
		setRefuses(t, s, "p.M", v, "a", num(0), e)
		for _, p := range []string{"a", "c", "c[0]", "d", `d["k"]`, "g", ""} {
			setRefuses(t, s, "p.M", msg(), p, v, e)
		}
	}
	// 200 messages are normal, and too deep; of 201 nothing else is asked.
	for _, p := range []string{"g", "", `d["k"]`} {
		setRefuses(t, s, "p.M", msg(), p, chain(199, 7, msg()), api.ErrDepth)
		setRefuses(t, s, "p.M", msg(), p, chain(198, 7, one(1, num(0))), api.ErrNormal)
		setRefuses(t, s, "p.M", msg(), p, chain(198, 7, one(9, num(0))), api.ErrType)
		setRefuses(t, s, "p.M", msg(), p, chain(199, 7, one(9, num(0))), api.ErrDepth)
	}
	setRefuses(t, s, "p.M", msg(), "d", dict(kv("k", chain(197, 7, msg()))), api.ErrDepth)
	setRefuses(t, s, "p.M", msg(), "d", dict(kv("k", chain(196, 7, one(1, num(0))))), api.ErrNormal)
	setRefuses(t, s, "p.M", msg(), "d", dict(kv("k", chain(196, 7, one(9, num(0))))), api.ErrType)
	setRefuses(t, s, "p.M", msg(), "d", dict(kv("k", chain(197, 7, one(9, num(0))))), api.ErrDepth)
	// As deep as maps of messages can be, which a tree of 64 messages may be.
	v, p := one(4, dict(kv("", msg()))), `d[""]`
	for range 62 {
		v, p = one(4, dict(kv("", v))), `d[""].`+p
	}
	gets(t, s, "p.M", v, p, msg())
	sets(t, s, "p.M", msg(), p, msg(), v)
	tells(t, s, "p.M", v, p)
	sets(t, s, "p.M", v, p+".c[0]", num(0), mapsAround(63, one(3, list(num(0)))))
	setRefuses(t, s, "p.M", v, p+`.d[""]`, msg(), api.ErrDepth)
	setRefuses(t, s, "p.M", msg(), p+`.d[""]`, msg(), api.ErrDepth)
}

// mapsAround is a message in so many maps, each in a message.
func mapsAround(n int, v api.Value) api.Value {
	for range n {
		v = one(4, dict(kv("", v)))
	}
	return v
}

func TestMostMessages(t *testing.T) { // P7: 64 and 65 messages in one another, in the tree, by what is set, by the path alone
	s := smallSchema()
	deep, over := chain(63, 7, msg()), chain(64, 7, msg())
	to := func(n int, end string) string { return strings.Repeat("g.", n) + end }
	gets(t, s, "p.M", deep, to(62, "g"), msg())
	lacks(t, s, "p.M", deep, to(63, "g"))
	lacks(t, s, "p.M", deep, to(511, "g"))
	clears(t, s, "p.M", deep, to(62, "g"), chain(62, 7, msg()))
	keeps(t, s, "p.M", deep, deep, "g")
	keeps(t, s, "p.M", deep, deep, to(511, "g"))
	strips(t, s, "p.M", deep, chain(30, 7, msg()), to(30, "g"))
	tells(t, s, "p.M", deep, to(62, "g"))
	getRefuses(t, s, "p.M", over, "g", api.ErrDepth)
	clearRefuses(t, s, "p.M", over, "g", api.ErrDepth)
	maskRefuses(t, s, "p.M", over, api.ErrDepth, "g")
	leavesRefuse(t, s, "p.M", over, api.ErrDepth)
	setRefuses(t, s, "p.M", over, "g", msg(), api.ErrDepth)

	sets(t, s, "p.M", msg(), to(62, "g"), msg(), deep)
	sets(t, s, "p.M", msg(), to(63, "a"), num(1), chain(63, 7, one(1, num(1))))
	sets(t, s, "p.M", msg(), to(63, "a"), num(0), deep)
	setRefuses(t, s, "p.M", msg(), to(63, "g"), msg(), api.ErrDepth)
	setRefuses(t, s, "p.M", msg(), to(64, "a"), num(1), api.ErrDepth)
	setRefuses(t, s, "p.M", msg(), to(64, "a"), num(0), api.ErrDepth)
	setRefuses(t, s, "p.M", msg(), to(511, "g"), msg(), api.ErrDepth)
	setRefuses(t, s, "p.M", msg(), to(511, "a"), num(0), api.ErrDepth)
	setRefuses(t, s, "p.M", msg(), to(509, "c[1]"), num(0), api.ErrIndex)
	for n := range 64 {
		if n > 0 {
			sets(t, s, "p.M", example(), "g", chain(n-1, 7, msg()), msg(append(example().Fields[:3:3], at(7, chain(n-1, 7, msg())))...))
		}
		sets(t, s, "p.M", msg(), "", chain(n, 7, msg()), chain(n, 7, msg()))
		sets(t, s, "p.M", deep, to(n, "a"), num(1), withA(deep, n))
	}
	setRefuses(t, s, "p.M", msg(), "g", deep, api.ErrDepth)
	setRefuses(t, s, "p.M", msg(), `d["k"]`, deep, api.ErrDepth)
	setRefuses(t, s, "p.M", msg(), "d", dict(kv("k", deep)), api.ErrDepth)
	setRefuses(t, s, "p.M", msg(), "", over, api.ErrDepth)
	sets(t, s, "p.M", deep, "f", num(1), one(6, num(1))) // what is deep goes
	sets(t, s, "p.M", deep, "g", msg(), one(7, msg()))
}

// withA is a chain of messages of the field 7 with the field 1 in the n-th.
func withA(v api.Value, n int) api.Value {
	if n > 0 {
		return one(7, withA(v.Fields[0].Value, n-1))
	}
	return msg(append([]api.Entry{at(1, num(1))}, v.Fields...)...)
}

func TestRings(t *testing.T) { // P1, P6: trees that lead back into themselves
	s := smallSchema()
	l := []api.Value{num(1), {}}
	l[1] = list(l...)
	l[1].List[1] = l[1]
	l[1].List = l
	ring := one(3, l[1])
	getRefuses(t, s, "p.M", ring, "c", api.ErrLong)
	setRefuses(t, s, "p.M", msg(), "c", l[1], api.ErrLong)
	leavesRefuse(t, s, "p.M", ring, api.ErrLong)
	printRefuses(t, s, "p.M", api.ErrStep, api.Step{Kind: api.SField, Number: 1, Key: l[1]})
	printRefuses(t, s, "p.M", api.ErrKeyText, field(4), key(l[1]))
}
