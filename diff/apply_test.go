package diff_test

import (
	"math"
	"strings"
	"testing"

	"sigil/api"
)

// full is a tree of the small schema with something in most places.
func full() api.Value {
	return msg(at(1, num(5)), at(3, nums(1, -1)), at(4, dict(kv("j", one(3, nums(7, 8))), kv("k", one(2, text("x"))))), at(7, msg(at(3, nums(4)), at(7, one(1, num(6))))))
}

// fullBut is that tree with another value for a field; the Value with nothing in it: without the field.
func fullBut(number int, v api.Value) api.Value {
	out := msg()
	put := func() {
		if v.Kind != 0 {
			out.Fields = append(out.Fields, at(number, v))
		}
		number = math.MaxInt
	}
	for _, e := range full().Fields {
		if e.Number >= number {
			was := number
			put()
			if e.Number == was {
				continue
			}
		}
		out.Fields = append(out.Fields, e)
	}
	if number != math.MaxInt {
		put()
	}
	return out
}

func TestSet(t *testing.T) { // P1903: ESet at fields, list elements, keys, below what is absent, at the path without steps
	s := smallSchema()
	none := api.Value{}
	for _, c := range []struct {
		p       string
		v, want api.Value
	}{
		{"a", num(-1), fullBut(1, num(-1))}, {"a", num(0), fullBut(1, none)}, {"b", text("y"), fullBut(2, text("y"))}, {"b", text(""), full()}, {"e", num(0), fullBut(5, num(0))},
		{"c", nums(9), fullBut(3, nums(9))}, {"c", list(), fullBut(3, none)}, {"c[0]", num(9), fullBut(3, nums(9, -1))}, {"c[2]", num(0), fullBut(3, nums(1, -1, 0))},
		{"d", dict(), fullBut(4, none)}, {"d", dict(kv("", msg())), fullBut(4, dict(kv("", msg())))}, {`d["k"]`, msg(), fullBut(4, dict(kv("j", one(3, nums(7, 8))), kv("k", msg())))},
		{`d["jj"].a`, num(3), fullBut(4, dict(kv("j", one(3, nums(7, 8))), kv("jj", one(1, num(3))), kv("k", one(2, text("x")))))}, {`d["k"].b`, text(""), fullBut(4, dict(kv("j", one(3, nums(7, 8))), kv("k", msg())))},
		{"g", msg(), fullBut(7, msg())}, {"g.g.a", num(0), fullBut(7, msg(at(3, nums(4)), at(7, msg())))}, {"g.g.g.e", num(1), fullBut(7, msg(at(3, nums(4)), at(7, msg(at(1, num(6)), at(7, one(5, num(1)))))))},
		{"", msg(), msg()}, {"", one(1, num(1)), one(1, num(1))}, {"", full(), full()},
	} {
		applies(t, s, "p.M", full(), c.want, set(c.p, c.v))
	}
	f := fullBut(7, none)
	f.Fields = append(f.Fields, at(6, num(0)))
	applies(t, s, "p.M", full(), f, set("f", num(0)))
	applies(t, s, "p.M", msg(), one(7, one(7, one(4, dict(kv("x", one(3, nums(0))))))), set(`g.g.d["x"].c[0]`, num(0)))
}

func TestSetRefused(t *testing.T) { // P1903: ESet has the errors of path.Set
	s := smallSchema()
	for _, c := range []struct {
		p    string
		v    api.Value
		want api.Errno
	}{
		{".", num(1), api.ErrStep}, {"a.", num(1), api.ErrStep}, {"a b", num(1), api.ErrStep}, {"[0]", num(1), api.ErrStep}, {"c[01]", num(1), api.ErrStep}, {"c[1", num(1), api.ErrStep},
		{"z", num(1), api.ErrNoField}, {"g.z", num(1), api.ErrNoField}, {"z.a", num(1), api.ErrNoField}, {"A", num(1), api.ErrNoField},
		{"a.b", num(1), api.ErrInto}, {"a[0]", num(1), api.ErrInto}, {"c.a", num(1), api.ErrInto}, {"g[0]", num(1), api.ErrInto}, {"c[0][0]", num(1), api.ErrInto},
		{"c[-1]", num(1), api.ErrIndex}, {"c[3]", num(1), api.ErrIndex}, {"c[4194304]", num(1), api.ErrIndex}, {"b", num(1), api.ErrType}, {"d[0]", msg(), api.ErrKeyText}, {`d["\xff"]`, msg(), api.ErrKeyText},
		{"a", text(""), api.ErrType}, {"a", num(1 << 31), api.ErrType}, {"a", api.Value{}, api.ErrType}, {"c", num(1), api.ErrType}, {"c[0]", nums(1), api.ErrType}, {"", num(1), api.ErrType}, {"d", list(), api.ErrType}, {`d["k"]`, dict(), api.ErrType}, {"b", text("\xff"), api.ErrType},
		{"", one(1, num(0)), api.ErrNormal}, {"g", one(1, num(0)), api.ErrNormal}, {"d", dict(kv("b", msg()), kv("a", msg())), api.ErrNormal}, {`d["x"]`, one(3, list()), api.ErrNormal},
		{"g", chain(63, 7, msg()), api.ErrDepth}, {"", chain(64, 7, msg()), api.ErrDepth}, {"c[3]", text(""), api.ErrType},
	} {
		refuses(t, s, "p.M", full(), c.want, set(c.p, c.v))
	}
	applies(t, s, "p.M", msg(), chain(63, 7, msg()), set("g", chain(62, 7, msg())))
}

func TestClear(t *testing.T) { // P1903: EClear at fields, list elements, keys, the path without steps; ErrBase where nothing stands
	s := smallSchema()
	none := api.Value{}
	for _, c := range []struct {
		p    string
		want api.Value
	}{
		{"a", fullBut(1, none)}, {"c", fullBut(3, none)}, {"c[0]", fullBut(3, nums(-1))}, {"c[1]", fullBut(3, nums(1))}, {"d", fullBut(4, none)}, {`d["j"]`, fullBut(4, dict(kv("k", one(2, text("x")))))},
		{`d["k"].b`, fullBut(4, dict(kv("j", one(3, nums(7, 8))), kv("k", msg())))}, {"g", fullBut(7, none)}, {"g.c[0]", fullBut(7, one(7, one(1, num(6))))}, {"g.g.a", fullBut(7, msg(at(3, nums(4)), at(7, msg())))}, {"", msg()},
	} {
		applies(t, s, "p.M", full(), c.want, drop(c.p))
	}
	applies(t, s, "p.M", msg(), msg(), drop(""))
	for p, want := range map[string]api.Errno{
		"b": api.ErrBase, "e": api.ErrBase, "f": api.ErrBase, "c[2]": api.ErrBase, "c[4194303]": api.ErrBase, `d["l"]`: api.ErrBase, `d["l"].a`: api.ErrBase, `d["k"].c[0]`: api.ErrBase, "g.a": api.ErrBase, "g.g.g.g.a": api.ErrBase,
		".": api.ErrStep, "a..": api.ErrStep, "z": api.ErrNoField, "g.z": api.ErrNoField, "a.a": api.ErrInto, "c[-1]": api.ErrIndex, "c[4194304]": api.ErrIndex, "d[1]": api.ErrKeyText, "b.z": api.ErrInto,
	} {
		refuses(t, s, "p.M", full(), want, drop(p))
	}
}

func TestSplice(t *testing.T) { // P1903: ESplice: values go and come at the front, within, at the end; of a list that is not there; of lists deep within
	s := smallSchema()
	a := one(3, nums(1, 2, 3))
	for _, c := range []struct {
		at, out int
		in      []int
		want    []int
	}{
		{0, 0, nil, []int{1, 2, 3}}, {1, 0, nil, []int{1, 2, 3}}, {3, 0, nil, []int{1, 2, 3}}, {0, 0, []int{9}, []int{9, 1, 2, 3}}, {1, 0, []int{9, 8}, []int{1, 9, 8, 2, 3}}, {3, 0, []int{9}, []int{1, 2, 3, 9}},
		{0, 1, nil, []int{2, 3}}, {1, 1, nil, []int{1, 3}}, {2, 1, nil, []int{1, 2}}, {0, 3, []int{9}, []int{9}}, {1, 2, []int{9, 9, 9}, []int{1, 9, 9, 9}}, {0, 2, []int{1, 2}, []int{1, 2, 3}}, {2, 1, []int{0}, []int{1, 2, 0}}, {0, 3, nil, nil},
	} {
		want := one(3, nums(c.want...))
		if len(c.want) == 0 {
			want = msg()
		}
		applies(t, s, "p.M", a, want, splice("c", c.at, c.out, nums(c.in...).List...))
		applies(t, s, "p.M", one(7, one(4, dict(kv("k", a)))), one(7, one(4, dict(kv("k", want)))), splice(`g.d["k"].c`, c.at, c.out, nums(c.in...).List...))
	}
	applies(t, s, "p.M", msg(), one(3, nums(1, 2)), splice("c", 0, 0, num(1), num(2)))
	applies(t, s, "p.M", msg(), msg(), splice("c", 0, 0))
	applies(t, s, "p.M", one(6, num(0)), msg(at(3, nums(1)), at(6, num(0))), splice("c", 0, 0, num(1)))
	applies(t, s, "p.M", one(7, msg()), one(7, one(3, nums(1))), splice("g.c", 0, 0, num(1)))
	applies(t, s, "p.M", one(4, dict(kv("", msg()))), one(4, dict(kv("", one(3, nums(1))))), splice(`d[""].c`, 0, 0, num(1)))
}

func TestSpliceWide(t *testing.T) { // P1903: ESplice of messages, of texts, by JSON names, in a value of a list
	s := wideSchema()
	v := func(n int) api.Value { return one(1, num(n)) }
	applies(t, s, "w.W", one(listV, list(v(1), v(2))), one(listV, list(v(1), v(3), v(2))), splice("listV", 1, 0, v(3)))
	applies(t, s, "w.W", one(listV, list(v(1), v(2))), one(listV, list(v(1), msg(at(1, num(2)), at(4, list(text("")))))), splice("list_v[1].cD", 0, 0, text("")))
	applies(t, s, "w.V", one(3, list(one(3, one(3, list(msg(), msg()))))), one(3, list(one(3, one(3, list(msg()))))), splice("u[0].v.u", 1, 1))
	refuses(t, s, "w.W", one(listV, list(v(1))), api.ErrBase, splice("list_v[1].c_d", 0, 0, text("")))
	refuses(t, s, "w.W", one(listV, list(v(1))), api.ErrBase, splice("list_v[0]", 0, 0))
	refuses(t, s, "w.W", one(listV, list(v(1))), api.ErrNormal, splice("list_v", 0, 1, one(1, num(0))))
	refuses(t, s, "w.W", one(listV, list(v(1))), api.ErrType, splice("list_v", 0, 1, one(1, num(0)), num(0)))
	refuses(t, s, "w.W", one(listV, list(v(1))), api.ErrType, splice("list_v", 0, 0, one(3, num(0))))
}

func TestSpliceByText(t *testing.T) { // P1903: the path without its last step is a piece of the path, even where it would be too long as Print writes it
	s := smallSchema()
	key := strings.Repeat("\x01", 900) // Print writes four bytes for each
	p := `d["` + key + `"].c`
	a := one(4, dict(kv(key, one(3, nums(1)))))
	got := one(4, dict(kv(key, one(3, nums(1, 2)))))
	applies(t, s, "p.M", a, got, splice(p, 1, 0, num(2))) // Back is ErrLong
	refuses(t, s, "p.M", msg(), api.ErrBase, splice(p, 0, 0, num(2)))
	for _, key := range []string{".c", "].c", `x"].c`, "."} {
		a := one(4, dict(kv(key, one(3, nums(1)))))
		p := `d["` + strings.ReplaceAll(key, `"`, `\"`) + `"]`
		applies(t, s, "p.M", a, one(4, dict(kv(key, one(3, nums(2, 1))))), splice(p+".c", 0, 0, num(2)))
		refuses(t, s, "p.M", a, api.ErrBase, splice(p, 0, 0, num(2)))
		refuses(t, s, "p.M", a, api.ErrBase, splice(p+".a", 0, 0, num(2)))
	}
}

func TestSpliceRefused(t *testing.T) { // P1903: ESplice at paths that don't parse, that go to no list, below what is absent; At + Out at the length, above it, so great that the sum runs over
	s := smallSchema()
	for p, want := range map[string]api.Errno{
		".": api.ErrStep, "c.": api.ErrStep, "z": api.ErrNoField, "g.z": api.ErrNoField, "c.c": api.ErrInto, "a.c": api.ErrInto, "c[-1]": api.ErrIndex, "d[1]": api.ErrKeyText, "d[1].c": api.ErrKeyText,
		"": api.ErrBase, "a": api.ErrBase, "b": api.ErrBase, "e": api.ErrBase, "f": api.ErrBase, "g": api.ErrBase, "g.g": api.ErrBase, "d": api.ErrBase, `d["k"]`: api.ErrBase, "c[0]": api.ErrBase, "c[7]": api.ErrBase,
		"g.g.g.c": api.ErrBase, `d["l"].c`: api.ErrBase, `d["l"].g.c`: api.ErrBase, "g.g.g.g.c": api.ErrBase, `g.d["k"].c`: api.ErrBase,
	} {
		refuses(t, s, "p.M", full(), want, splice(p, 0, 0))
		refuses(t, s, "p.M", full(), want, splice(p, 0, 0, num(1)))
		refuses(t, s, "p.M", full(), want, splice(p, math.MaxInt, math.MaxInt, text("")))
	}
	for _, c := range [][2]int{{3, 0}, {2, 1}, {1, 2}, {0, 3}, {math.MaxInt, 0}, {0, math.MaxInt}, {1, math.MaxInt}, {2, math.MaxInt}, {math.MaxInt, 1}, {math.MaxInt, math.MaxInt}, {1 << 62, 1 << 62}, {1 << 32, 1 << 32}} {
		refuses(t, s, "p.M", full(), api.ErrBase, splice("c", c[0], c[1]))
		refuses(t, s, "p.M", full(), api.ErrBase, splice("c", c[0], c[1], text(""))) // ahead of what the values are
	}
	for _, c := range [][2]int{{1, 0}, {0, 1}, {1, 1}, {math.MaxInt, math.MaxInt}} {
		refuses(t, s, "p.M", full(), api.ErrBase, splice("g.g.c", c[0], c[1]))
		refuses(t, s, "p.M", msg(), api.ErrBase, splice("c", c[0], c[1], num(1)))
	}
	for _, v := range []api.Value{{}, text(""), msg(), nums(1), num(1 << 31), {Kind: api.VNum, Text: "x"}, nested(198, num(1))} {
		refuses(t, s, "p.M", full(), api.ErrType, splice("c", 0, 0, num(1), v))
	}
	// Right by itself; in the list it is too deep, which is told ahead of what it is.
	refuses(t, s, "p.M", full(), api.ErrDepth, splice("c", 0, 0, text(""), nested(199, num(1))))
}

func TestOneBehindTheOther(t *testing.T) { // P1903: each edit is done on what the one ahead of it left
	s := smallSchema()
	applies(t, s, "p.M", msg(), one(1, num(3)), set("a", num(1)), set("a", num(2)), drop("a"), set("a", num(3)))
	applies(t, s, "p.M", one(3, nums(1, -1)), one(3, nums(4)), splice("c", 0, 2), splice("c", 0, 0, num(4)))
	applies(t, s, "p.M", msg(), one(3, nums(1, 3)), set("c[0]", num(1)), set("c[1]", num(2)), set("c[2]", num(3)), drop("c[1]"))
	applies(t, s, "p.M", msg(), one(7, one(3, nums(2))), set("g", msg()), splice("g.c", 0, 0, num(1), num(2)), splice("g.c", 0, 1))
	applies(t, s, "p.M", one(6, num(1)), one(6, num(2)), set("g.a", num(1)), set("f", num(2)))
	applies(t, s, "p.M", one(6, num(1)), msg(), set("g.a", num(1)), drop("g"))
	applies(t, s, "p.M", full(), one(1, num(1)), drop(""), set("a", num(1)))
	applies(t, s, "p.M", full(), full())
	refuses(t, s, "p.M", one(6, num(1)), api.ErrBase, set("g.a", num(1)), drop("f"))
	refuses(t, s, "p.M", msg(), api.ErrIndex, set("c[0]", num(1)), set("c[2]", num(2)))
}

func TestRefusedBehindOthers(t *testing.T) { // P1903: the first edit that is refused ends it, nothing is done; what is behind it is not asked
	s := smallSchema()
	done := []api.Edit{set("a", num(7)), drop("c[0]"), splice("c", 0, 0, num(3)), drop("g"), set("f", num(1))}
	for _, c := range []struct {
		edit api.Edit
		want api.Errno
	}{
		{drop("g"), api.ErrBase}, {splice("c", 2, 1), api.ErrBase}, {splice("g.c", 0, 0), api.ErrBase}, {set("c[3]", num(1)), api.ErrIndex}, {set("a", text("")), api.ErrType}, {set("z", num(1)), api.ErrNoField}, {set("g", one(1, num(0))), api.ErrNormal}, {drop("."), api.ErrStep}, {set("g", chain(63, 7, msg())), api.ErrDepth},
	} {
		refuses(t, s, "p.M", full(), c.want, append(done[:len(done):len(done)], c.edit)...)
		refuses(t, s, "p.M", full(), c.want, append(done[:len(done):len(done)], c.edit, set("", full()), drop("["))...)
		refuses(t, s, "p.M", full(), c.want, append(done[:len(done):len(done)], c.edit, drop("b"), splice("", 0, 0))...)
	}
}
