package diff_test

import (
	"fmt"
	"slices"
	"strings"
	"testing"

	"sigil/api"
	"sigil/diff"
)

// broad is a schema with a message of MaxFields optional fields, and one that has eight and a ninth of it.
func broad() string {
	var b strings.Builder
	b.WriteString(`syntax = "proto3"; message F {`)
	for i := range api.MaxFields {
		fmt.Fprintf(&b, "optional int32 f%d = %d; ", i+1, i+1)
	}
	return b.String() + "} message T { F f1 = 1; F f2 = 2; F f3 = 3; F f4 = 4; F f5 = 5; F f6 = 6; F f7 = 7; F f8 = 8; F f9 = 9; }"
}

// fieldsOf is a message of F with so many fields.
func fieldsOf(n, v int) api.Value {
	m := msg()
	for i := range n {
		m.Fields = append(m.Fields, at(i+1, num(v)))
	}
	return m
}

func TestMostEdits(t *testing.T) { // P1902, P1905: MaxEdits edits and one more
	t.Parallel()
	s := load(t, broad())
	a, b := msg(), msg()
	var want []api.Edit
	for i := range 8 {
		a.Fields = append(a.Fields, at(i+1, msg()))
		b.Fields = append(b.Fields, at(i+1, fieldsOf(api.MaxFields, i)))
		for k := range api.MaxFields {
			want = append(want, set(fmt.Sprintf("f%d.f%d", i+1, k+1), num(i)))
		}
	}
	if len(want) != api.MaxEdits {
		t.Fatal(len(want))
	}
	got, e := diff.Trees(s, "T", a, b)
	if e != api.OK || !sameEdits(got, want) {
		t.Fatalf("P1902: %s, %v", shortEdits(got), e)
	}
	apart(t, got)
	if v, e := diff.Apply(s, "T", a, got); e != api.OK || !same(v, b) {
		t.Errorf("P1905: %s, %v", short(v), e)
	}
	// One more that comes, that goes, that is changed.
	more := msg(slices.Concat(b.Fields, []api.Entry{at(9, fieldsOf(1, 1))})...)
	treesRefuse(t, s, "T", a, more, api.ErrLong)
	treesRefuse(t, s, "T", more, a, api.ErrLong)
	treesRefuse(t, s, "T", msg(slices.Concat(a.Fields, []api.Entry{at(9, fieldsOf(1, 1))})...), msg(slices.Concat(b.Fields, []api.Entry{at(9, fieldsOf(1, 2))})...), api.ErrLong)
	// Far more.
	map1, map2 := dict(), dict()
	for i := range 3 * api.MaxEdits {
		map1.List, map2.List = append(map1.List, pair(num(i), num(1))), append(map2.List, pair(num(i), num(2)))
	}
	wide := wideSchema()
	treesRefuse(t, wide, "w.W", one(keyed+3, map1), one(keyed+3, map2), api.ErrLong)
	map1.List, map2.List = map1.List[:api.MaxEdits], map2.List[:api.MaxEdits]
	if l, e := diff.Trees(wide, "w.W", one(keyed+3, map1), one(keyed+3, map2)); e != api.OK || len(l) != api.MaxEdits || l[4095].Path != "k_3[4095]" {
		t.Errorf("P1902: %s, %v", shortEdits(l), e)
	}
	map2.List = append(map2.List, pair(num(1<<20), num(1)))
	treesRefuse(t, wide, "w.W", one(keyed+3, map1), one(keyed+3, map2), api.ErrLong)
}

func TestMostEditsDone(t *testing.T) { // P1903, P1904: Apply and Back of MaxEdits edits and one more; of edits whose way back has too many
	t.Parallel()
	s := smallSchema()
	var l []api.Edit
	for i := range api.MaxEdits {
		l = append(l, set("a", num(i+1)))
	}
	applies(t, s, "p.M", msg(), one(1, num(api.MaxEdits)), l...)
	refuses(t, s, "p.M", msg(), api.ErrLong, append(l, set("a", num(1)))...)
	l[4095] = drop("b")
	refuses(t, s, "p.M", msg(), api.ErrBase, l...)
	// One edit that changes more than MaxEdits keys: it is done, but Back can't tell the way back.
	wide := wideSchema()
	a, b := dict(), dict()
	for i := range api.MaxEdits + 1 {
		a.List, b.List = append(a.List, pair(num(i), num(1))), append(b.List, pair(num(i), num(2)))
	}
	edits := []api.Edit{set("k_3", b)}
	if v, e := diff.Apply(wide, "w.W", one(keyed+3, a), edits); e != api.OK || !same(v, one(keyed+3, b)) {
		t.Errorf("P1903: %s, %v", short(v), e)
	}
	if l, e := diff.Back(wide, "w.W", one(keyed+3, a), edits); e != api.ErrLong || len(l) > 0 {
		t.Errorf("P1904: %s, %v", shortEdits(l), e)
	}
}

func TestMostValues(t *testing.T) { // P1902: trees of MaxValues values together and one more, unlike and the same
	s := smallSchema()
	lists := func(n int) api.Value { return one(3, list(filled(n, num(1))...)) } // n + 2 values
	half := api.MaxValues/2 - 2
	big := lists(half)
	if l, e := diff.Trees(s, "p.M", big, big); e != api.OK || len(l) > 0 {
		t.Errorf("P1902: %s, %v", shortEdits(l), e)
	}
	more := lists(half + 1)
	treesRefuse(t, s, "p.M", big, more, api.ErrLong)
	treesRefuse(t, s, "p.M", more, big, api.ErrLong)
	treesRefuse(t, s, "p.M", more, more, api.ErrLong)
	// The one without fields counts one.
	most := lists(api.MaxValues - 3)
	l, e := diff.Trees(s, "p.M", most, msg())
	if e != api.OK || !sameEdits(l, []api.Edit{drop("c")}) {
		t.Errorf("P1902: %s, %v", shortEdits(l), e)
	}
	back, e := diff.Back(s, "p.M", most, l)
	if e != api.OK || len(back) != 1 || back[0].Kind != api.ESet || len(back[0].Values[0].List) != api.MaxValues-3 {
		t.Errorf("P1904: %s, %v", shortEdits(back), e)
	}
	full := lists(api.MaxValues - 2)
	treesRefuse(t, s, "p.M", full, msg(), api.ErrLong)
	treesRefuse(t, s, "p.M", msg(), full, api.ErrLong)
	treesRefuse(t, s, "p.M", one(1, num(0)), full, api.ErrNormal) // what a tree is comes ahead of it
	refuses(t, s, "p.M", lists(api.MaxValues-1), api.ErrLong)
}

func TestMostValuesInMaps(t *testing.T) { // P1902: a pair counts, its key and its value too; what hangs twice counts twice
	s := smallSchema()
	// The message, the list and its two, the map, its pair, the key, three messages: ten, with a pair and a key around it twelve.
	v := msg(at(3, nums(1, 2)), at(4, dict(kv("x", one(7, one(7, msg()))))))
	const rows = api.MaxValues/2/12 - 1
	pairs := dict()
	for i := range rows {
		pairs.List = append(pairs.List, kv(fmt.Sprintf("%07d", i), v))
	}
	tall := func(rest int) api.Value { return msg(at(3, list(filled(rest, num(1))...)), at(4, pairs)) }
	const rest = api.MaxValues/2 - 3 - 12*rows
	a, b := tall(rest), tall(rest)
	b.Fields[0].Value.List[0] = num(2)
	if n := valuesOf(a); n != api.MaxValues/2 {
		t.Fatal(n)
	}
	if l, e := diff.Trees(s, "p.M", a, b); e != api.OK || !sameEdits(l, []api.Edit{splice("c", 0, 1, num(2))}) {
		t.Errorf("P1902: %s, %v", shortEdits(l), e)
	}
	treesRefuse(t, s, "p.M", a, tall(rest+1), api.ErrLong)
	treesRefuse(t, s, "p.M", tall(rest+1), b, api.ErrLong)
}

// valuesOf counts the values of a tree in another way.
func valuesOf(v api.Value) int {
	open, n := []api.Value{v}, 0
	for len(open) > 0 {
		v, open = open[len(open)-1], open[:len(open)-1]
		n++
		open = append(open, v.List...)
		for _, e := range v.Fields {
			open = append(open, e.Value)
		}
	}
	return n
}

func TestMostValuesDone(t *testing.T) { // P1903, P1905: trees with as many values as may be are turned into one another; ErrLong where an edit makes a tree too large
	s := smallSchema()
	half := api.MaxValues/2 - 2
	a, b := one(3, list(filled(half, num(1))...)), one(3, list(filled(half, num(2))...))
	a.Fields[0].Value.List[0], a.Fields[0].Value.List[half-1] = num(7), num(8)
	b.Fields[0].Value.List[0], b.Fields[0].Value.List[half-1] = num(7), num(8)
	l, e := diff.Trees(s, "p.M", a, b)
	if e != api.OK || len(l) != 1 || l[0].At != 1 || l[0].Out != half-2 || len(l[0].Values) != half-2 {
		t.Fatalf("P1902: %s, %v", shortEdits(l), e)
	}
	if v, e := diff.Apply(s, "p.M", a, l); e != api.OK || !same(v, b) {
		t.Errorf("P1905: %s, %v", short(v), e)
	}
	most := one(3, list(filled(api.MaxValues-2, num(1))...))
	refuses(t, s, "p.M", most, api.ErrLong, set("a", num(1)))
	refuses(t, s, "p.M", most, api.ErrLong, splice("c", 5, 0, num(1)))
	refuses(t, s, "p.M", most, api.ErrLong, set("c[4194302]", num(1)))
	refuses(t, s, "p.M", msg(), api.ErrLong, splice("c", 0, 0, filled(api.MaxValues, text(""))...)) // as a list it is too long, which is told ahead of what is in it
	if v, e := diff.Apply(s, "p.M", most, []api.Edit{splice("c", 5, 1, num(2)), drop("c[0]"), set("a", num(1))}); e != api.OK || len(v.Fields[1].Value.List) != api.MaxValues-3 {
		t.Errorf("P1903: %s, %v", short(v), e)
	}
}

func TestLongPathsOfEdits(t *testing.T) { // P1902: paths of MaxPath bytes and one more among the edits, of each kind; those that are no edit's may be as long as they like
	s := smallSchema()
	for _, extra := range []int{0, 1, 1000, 1 << 20} {
		check := func(a, b api.Value, want ...api.Edit) {
			t.Helper()
			if extra == 0 {
				turns(t, s, "p.M", a, b, want...)
				return
			}
			treesRefuse(t, s, "p.M", a, b, api.ErrLong)
		}
		p, key := keyOf(api.MaxPath+extra, "")
		held := func(v api.Value) api.Value { return one(4, dict(kv("a", msg()), kv(key, v))) }
		free := one(4, dict(kv("a", msg())))
		check(free, held(msg()), set(p, msg()))
		check(held(msg()), free, drop(p))
		p, key = keyOf(api.MaxPath+extra, ".c")
		check(held(one(3, nums(1))), held(one(3, nums(2))), splice(p, 0, 1, num(2)))
		check(held(msg()), held(one(3, nums(2))), set(p, nums(2)))
		check(held(one(3, nums(2))), held(msg()), drop(p))
		p, key = keyOf(api.MaxPath+extra, ".g.a")
		check(held(one(7, msg())), held(one(7, one(1, num(1)))), set(p, num(1)))
		check(held(one(7, one(1, num(2)))), held(one(7, one(1, num(1)))), set(p, num(1)))
		check(msg(at(1, num(1)), at(4, held(one(7, one(1, num(2)))).Fields[0].Value)), held(one(7, msg())), drop("a"), drop(p))
		// Not an edit's.
		turns(t, s, "p.M", held(one(7, one(1, num(1)))), held(one(7, one(1, num(1)))))
		turns(t, s, "p.M", msg(), held(one(7, msg())), set("d", held(one(7, msg())).Fields[0].Value))
		turns(t, s, "p.M", held(one(7, msg())), msg(), drop("d"))
		turns(t, s, "p.M", one(4, dict(kv("a", held(one(7, msg()))))), one(4, dict(kv("a", msg()))), drop(`d["a"].d`))
		turns(t, s, "p.M", held(one(7, msg())), msg(at(1, num(1)), held(one(7, msg())).Fields[0]), set("a", num(1)))
	}
}

func TestLongPathsByEscapes(t *testing.T) { // P1902: a path is as long as it is written: with escapes, quotes, dots
	s := smallSchema()
	for _, c := range []struct {
		key   string
		bytes int // as it is written
	}{{"\x01", 4}, {"\n", 2}, {`"`, 2}, {"é", 2}, {"\x7f", 4}, {"k", 1}} {
		n := (api.MaxPath - len(`d[""].a`)) / c.bytes
		fill := strings.Repeat("k", api.MaxPath-len(`d[""].a`)-n*c.bytes)
		key := strings.Repeat(c.key, n) + fill
		a, b := one(4, dict(kv(key, msg()))), one(4, dict(kv(key, one(1, num(1)))))
		l, e := diff.Trees(s, "p.M", a, b)
		if e != api.OK || len(l) != 1 || len(l[0].Path) != api.MaxPath {
			t.Errorf("P1902: %s, %v", shortEdits(l), e)
		}
		leads(t, s, "p.M", a, b, l)
		key += "k"
		treesRefuse(t, s, "p.M", one(4, dict(kv(key, msg()))), one(4, dict(kv(key, one(1, num(1))))), api.ErrLong)
	}
	// Keys with dots and brackets are no steps.
	a := one(4, dict(kv("", one(3, nums(1))), kv(`"].d["`, one(3, nums(1)))))
	b := one(4, dict(kv("", one(3, nums(2))), kv(`"].d["`, one(3, nums(2)))))
	turns(t, s, "p.M", a, b, splice(`d[""].c`, 0, 1, num(2)), splice(`d["\"].d[\""].c`, 0, 1, num(2)))
}

func TestLongNames(t *testing.T) { // P1902: names as long as may be, as many as a path has room for
	long := func(n int) string { return strings.Repeat("n", n) }
	s := proto(t, "message M { M "+long(255)+" = 1; M "+long(254)+" = 2; optional int32 x = 3; repeated int32 y = 4; }")
	three := strings.Repeat(long(255)+".", 3)
	in := func(v api.Value) api.Value { return chain(3, 1, v) }
	turns(t, s, "M", in(msg()), in(one(1, msg())), set(three+long(255), msg())) // of 1023 bytes
	turns(t, s, "M", in(one(1, msg())), in(msg()), drop(three+long(255)))
	turns(t, s, "M", in(one(1, one(3, num(0)))), in(one(1, one(3, num(0)))))
	treesRefuse(t, s, "M", in(one(1, msg())), in(one(1, one(3, num(0)))), api.ErrLong)
	treesRefuse(t, s, "M", in(one(2, one(3, num(0)))), in(one(2, msg())), api.ErrLong) // of 1024 bytes
	treesRefuse(t, s, "M", in(one(2, one(4, nums(0)))), in(one(2, one(4, nums(1)))), api.ErrLong)
	turns(t, s, "M", in(one(2, one(3, num(0)))), in(one(1, msg())), drop(three+long(254)), set(three+long(255), msg()))
}
