package json_test

import (
	"fmt"
	"slices"
	"strings"
	"sync"
	"testing"

	"sigil/api"
	"sigil/bind"
	"sigil/json"
)

// ask asks a codec to print a tree and to read a text, and tells all that it answers.
func ask(c *json.Codec, name string, v api.Value, text string) string {
	told, e := c.Print(name, v)
	read, bad := c.Parse(name, text)
	return fmt.Sprintf("%s %v %v %+v", told, e, read, bad)
}

func TestTwoSchemas(t *testing.T) { // P3: two codecs of two schemas with the same names, in turns, with faults between
	a := json.New(load(t, `syntax = "proto3"; message M { int32 a_b = 1; M m = 2; E e = 3; } enum E { Z = 0; ONE = 1; }`))
	b := json.New(load(t, `syntax = "proto3"; message M { string a_b = 1; repeated M m = 2; E e = 3; } enum E { N = 0; Z = 1; }`))
	c := json.New(load(t, `syntax = "proto3"; message M { optional bool ab = 1; map<int32, M> m = 2; N n = 3; } message N { M m = 2; }`))
	type turn struct {
		c    *json.Codec
		name string
		text string
		v    api.Value
		bad  api.Fault
	}
	turns := []turn{
		{a, "M", `{"aB":1,"m":{"e":"ONE"},"e":2}`, msg(at(1, num(1)), at(2, one(3, num(1))), at(3, num(2))), api.Fault{}},
		{b, "M", `{"aB":"1","m":[{"e":"Z"},{}]}`, msg(at(1, text("1")), at(2, list(one(3, num(1)), msg()))), api.Fault{}},
		{c, "M", `{"ab":false,"m":{"7":{}},"n":{"m":{}}}`, msg(at(1, num(0)), at(2, dict(pair(num(7), msg()))), at(3, one(2, msg()))), api.Fault{}},
		{c, "N", `{"m":{"ab":true}}`, one(2, one(1, num(1))), api.Fault{}},
		{a, "M", `{"aB":"x"}`, api.Value{}, api.Fault{Err: api.ErrJsonNumber, At: 6}},
		{b, "M", `{"aB":1}`, api.Value{}, api.Fault{Err: api.ErrShape, At: 6}},
		{c, "M", `{"aB":1}`, api.Value{}, api.Fault{Err: api.ErrMember, At: 1}},
		{b, "M", `{"e":"ONE"}`, api.Value{}, api.Fault{Err: api.ErrJsonEnum, At: 5}},
		{a, "M", `{"m":[]}`, api.Value{}, api.Fault{Err: api.ErrShape, At: 5}},
		{b, "M", `{"m":{}}`, api.Value{}, api.Fault{Err: api.ErrShape, At: 5}},
		{a, "N", `{}`, api.Value{}, api.Fault{Err: api.ErrName}},
		{b, "M", `{"m":[`, api.Value{}, api.Fault{Err: api.ErrJson, At: 6}},
	}
	for round := range 3 {
		for i := range turns {
			x := turns[(i*5+round)%len(turns)]
			v, bad := x.c.Parse(x.name, x.text)
			if bad != x.bad || !same(v, x.v) {
				t.Errorf("P3: Parse(%q, %s) = %s, %+v, want %s, %+v", x.name, x.text, short(v), bad, short(x.v), x.bad)
			}
			if x.bad.Err == api.OK {
				if told, e := x.c.Print(x.name, x.v); e != api.OK || told != x.text {
					t.Errorf("P3: Print(%q, %s) = %s, %v, want %s", x.name, short(x.v), told, e, x.text)
				}
			}
		}
	}
}

func TestAskedBefore(t *testing.T) { // P3: one codec that is asked of several types in turns, right things and wrong ones, answers what a new one does
	s := wideSchema()
	names := []string{"w.W", "w.V", "w.U", "w.N", "w.E", ""}
	for seed := range int64(60) {
		m := newMaker(seed)
		old := json.New(s)
		for range 40 {
			name := pick(m, names...)
			of := name
			if m.Intn(8) == 0 || !slices.Contains(s.Messages(), name) {
				of = names[m.Intn(3)] // perhaps of another type
			}
			m.rare = pick(m, 0, 20)
			v, text := m.normal(of), m.written(of, 1+m.Intn(4))
			got, want := ask(old, name, v, text), ask(json.New(s), name, v, text)
			if got != want {
				t.Fatalf("P3: of %q, %s, %s: %s, a new codec answers %s", name, short(v), some(text), got, want)
			}
		}
	}
}

func TestTypesThatHoldOneAnother(t *testing.T) { // P1205, P1206: types that hold themselves and one another, in all ways, whichever of them is met first
	s := load(t, `syntax = "proto3"; package r;
		message A { A a = 1; B b = 2; int32 n = 3; }
		message B { repeated A a = 1; map<int32, C> c = 2; uint64 n = 3; }
		message C { oneof o { A a = 1; B b = 2; C c = 4; } F n = 3; optional D d = 5; message D { map<string, A> a = 1; repeated D d = 2; bool n = 3; } enum F { X = 0; Y = 1; } }`)
	n := func(v int) api.Entry { return at(3, num(v)) }
	trees := map[string][]struct {
		v    api.Value
		want string
	}{
		"r.A":   {{msg(n(1)), `{"n":1}`}, {msg(at(1, msg(n(2))), n(1)), `{"a":{"n":2},"n":1}`}, {one(2, msg(n(1))), `{"b":{"n":"1"}}`}, {one(2, one(1, list(one(2, one(1, list(msg(n(5)), msg())))))), `{"b":{"a":[{"b":{"a":[{"n":5},{}]}}]}}`}, {one(2, one(2, dict(pair(num(1), one(1, one(2, msg(n(-1)))))))), `{"b":{"c":{"1":{"a":{"b":{"n":"18446744073709551615"}}}}}}`}},
		"r.B":   {{msg(n(1)), `{"n":"1"}`}, {one(2, dict(pair(num(0), msg(n(1))))), `{"c":{"0":{"n":"Y"}}}`}, {one(1, list(one(2, msg(n(1))))), `{"a":[{"b":{"n":"1"}}]}`}},
		"r.C":   {{msg(n(1)), `{"n":"Y"}`}, {one(4, one(4, msg(n(1)))), `{"c":{"c":{"n":"Y"}}}`}, {one(5, msg(n(1))), `{"d":{"n":true}}`}, {one(2, msg(n(1))), `{"b":{"n":"1"}}`}, {one(5, one(1, dict(kv("k", msg(n(1)))))), `{"d":{"a":{"k":{"n":1}}}}`}},
		"r.C.D": {{msg(n(1)), `{"n":true}`}, {one(2, list(one(2, list(msg(n(1)))), msg(n(1)))), `{"d":[{"d":[{"n":true}]},{"n":true}]}`}, {one(1, dict(kv("", one(2, msg(n(1)))))), `{"a":{"":{"b":{"n":"1"}}}}`}},
	}
	names := s.Messages()
	for turn := range names { // each of them first, by writing or by reading
		for _, first := range []string{"write", "read"} {
			c := json.New(s)
			for i := range names {
				name := names[(i+turn)%len(names)]
				for _, x := range trees[name] {
					if first == "write" {
						if told, e := c.Print(name, x.v); e != api.OK || told != x.want {
							t.Errorf("P1205: Print(%q, %s) = %s, %v, want %s", name, short(x.v), told, e, x.want)
						}
					}
					if v, bad := c.Parse(name, x.want); bad != (api.Fault{}) || !same(v, x.v) {
						t.Errorf("P1206: Parse(%q, %s) = %s, %+v, want %s", name, x.want, short(v), bad, short(x.v))
					}
					prints(t, s, name, x.v, x.want)
				}
			}
		}
	}
}

// ring is a schema of as many types as there may be, each of which holds the next one.
func ring(t *testing.T) *bind.Schema {
	var b strings.Builder
	for i := range api.MaxTypes {
		fmt.Fprintf(&b, "message T%d { int32 a = 1; T%d t%d = %d; } ", i, (i+1)%api.MaxTypes, i, i+2)
	}
	return load(t, `syntax = "proto3"; `+b.String())
}

func TestManyTypes(t *testing.T) { // P1205, P1206: as many types as there may be, met in one tree and one after the other
	s := ring(t)
	c := json.New(s)
	for i := range api.MaxTypes {
		v, want := one(1, num(1)), `{"a":1}`
		for k := i + 62; k >= i; k-- {
			k := k % api.MaxTypes
			v, want = msg(at(1, num(k+1)), at(k+2, v)), fmt.Sprintf(`{"a":%d,"t%d":%s}`, k+1, k, want)
		}
		name := fmt.Sprint("T", i)
		told, e := c.Print(name, v)
		back, bad := c.Parse(name, want)
		if e != api.OK || told != want || bad != (api.Fault{}) || !same(back, v) {
			t.Fatalf("P1205: T%d: %s, %v, %s, %+v", i, some(told), e, short(back), bad)
		}
		next := fmt.Sprintf(`{"t%d":{}}`, (i+1)%api.MaxTypes) // a name of the type next to it
		if _, bad := c.Parse(name, next); bad != (api.Fault{Err: api.ErrMember, At: 1}) {
			t.Fatalf("P1206: T%d: %s: %+v", i, next, bad)
		}
	}
}

func TestManyFields(t *testing.T) { // P1205, P1206: a message of as many fields as there may be, an enum of as many values
	var fields, values strings.Builder
	v, texts := msg(), []string{}
	all := list()
	var names []string
	for i := range api.MaxFields {
		if i > 0 {
			fmt.Fprintf(&fields, "int32 f_x%d = %d; ", i, i+1)
			v.Fields = append(v.Fields, at(i+1, num(i)))
			texts = append(texts, fmt.Sprintf(`"fX%d":%d`, i, i))
		}
		fmt.Fprintf(&values, "V%d = %d; ", i, i*7)
		all.List = append(all.List, num(i*7), num(i*7+1))
		names = append(names, fmt.Sprintf(`"V%d"`, i), fmt.Sprint(i*7+1))
	}
	s := load(t, `syntax = "proto3"; message M { repeated E e = 1; `+fields.String()+`} enum E { `+values.String()+`}`)
	prints(t, s, "M", v, `{`+strings.Join(texts, ",")+`}`)
	prints(t, s, "M", one(1, all), `{"e":[`+strings.Join(names, ",")+`]}`)
	slices.Reverse(texts)
	reads(t, s, "M", `{`+strings.ReplaceAll(strings.Join(texts, ","), "fX", "f_x")+`}`, v)
}

func TestEnumsApart(t *testing.T) { // P1205, P1206: several enums, whose values have the same names or the same numbers
	s := load(t, `syntax = "proto3"; enum E { Z = 0; A = 1; B = 2; } enum F { O = 0; A = 2; B = 1; C = 3; } message M { F f = 1; E e = 2; M.E g = 3; repeated F r = 4; map<string, E> m = 5; N n = 6; .E h = 7; enum E { Q = 0; A = -1; } message N { E e = 1; F f = 2; enum F { Z = 0; C = 1; } } }`)
	prints(t, s, "M", msg(at(1, num(1)), at(2, num(1)), at(3, num(-1)), at(4, list(num(0), num(2), num(3))), at(5, dict(kv("", num(2)))), at(6, msg(at(1, num(-1)), at(2, num(1)))), at(7, num(1))),
		`{"f":"B","e":1,"g":"A","r":["O","A","C"],"m":{"":2},"n":{"e":"A","f":"C"},"h":"A"}`)
	prints(t, s, "M.N", msg(at(1, num(1)), at(2, num(2))), `{"e":1,"f":2}`)
	refuses(t, s, "M", `{"f":"Z"}`, 5, api.ErrJsonEnum)
	refuses(t, s, "M", `{"e":"B"}`, 5, api.ErrJsonEnum)
	refuses(t, s, "M", `{"h":"Q"}`, 5, api.ErrJsonEnum)
	refuses(t, s, "M", `{"n":{"f":"O"}}`, 10, api.ErrJsonEnum)
}

func TestAskedTwice(t *testing.T) { // P3: the same again, whatever was asked between
	s := wideSchema()
	c := json.New(s)
	var before []string
	for round := range 3 {
		i := 0
		for seed := range int64(100) {
			for _, name := range s.Messages() {
				m := newMaker(seed)
				m.rare = 30
				got := ask(c, name, m.normal(name), m.written(name, 3))
				if round == 0 {
					before = append(before, got)
				} else if got != before[i] {
					t.Fatalf("P3: of %q: %s, before it was %s", name, got, before[i])
				}
				i++
			}
		}
	}
}

func TestBeside(t *testing.T) { // P3: one codec, asked by several at the same time, of types that it has not met
	s := wideSchema()
	for range 5 {
		c := json.New(s)
		var wait sync.WaitGroup
		for k := range 8 {
			wait.Go(func() {
				for seed := range int64(20) {
					for i := range s.Messages() {
						name := s.Messages()[(i+k)%3]
						m := newMaker(seed + int64(k))
						m.rare = 30
						v, text := m.normal(name), m.written(name, 3)
						if got, want := ask(c, name, v, text), ask(json.New(s), name, v, text); got != want {
							t.Errorf("P3: of %q: %s, want %s", name, got, want)
						}
					}
				}
			})
		}
		wait.Wait()
	}
}
