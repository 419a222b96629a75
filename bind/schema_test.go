package bind_test

import (
	"fmt"
	"math/rand"
	"reflect"
	"slices"
	"strings"
	"testing"

	"sigil/api"
)

// alike says whether two answers are the same, nil and empty lists taken as one.
func alike(a, b any) bool { return fmt.Sprintf("%q", a) == fmt.Sprintf("%q", b) }

func TestExample(t *testing.T) { // P705, P707: the chapter's first example
	s := load(t, texts("a", "package p; message M { N n = 1; message N { } }  message N { M m = 2; E e = 3; } enum E { Z = 0; }"))
	if l := s.Messages(); !slices.Equal(l, []string{"p.M", "p.M.N", "p.N"}) {
		t.Errorf("P705: Messages: %q", l)
	}
	if l := s.Enums(); !slices.Equal(l, []string{"p.E"}) {
		t.Errorf("P705: Enums: %q", l)
	}
	if f, e := s.Field("p.M", 1); f != (api.Field{Number: 1, Name: "n", Json: "n", Card: api.CSingle, Type: api.TMessage, Of: "p.M.N"}) || e != api.OK {
		t.Errorf("P704: %+v, %v", f, e)
	}
	for name, want := range map[string][]string{"p.N": {"p.E", "p.M", "p.M.N", "p.N"}, "p.M": {"p.M", "p.M.N"}, "p.M.N": {"p.M.N"}} {
		if l, e := s.Reach(name); !slices.Equal(l, want) || e != api.OK {
			t.Errorf("P707: Reach(%s): %q, %v", name, l, e)
		}
	}
}

func TestNothing(t *testing.T) { // P701, P705: a schema without types
	for _, l := range [][]api.Source{nil, {}, texts("a", ""), texts("a", "package p.q; import 'b';", "b", "import 'a';")} {
		s := load(t, l)
		if len(s.Messages()) != 0 || len(s.Enums()) != 0 || len(s.Texts()) != 0 {
			t.Errorf("P701: %q: %q, %q, %q", l, s.Messages(), s.Enums(), s.Texts())
		}
		for _, name := range []string{"", "p", "p.q", "a"} {
			if _, e := s.Message(name); e != api.ErrName {
				t.Errorf("P705: Message(%q): %v", name, e)
			}
		}
	}
}

func TestMessages(t *testing.T) { // P705: names rise bytewise
	s := load(t, texts("b", "message b { message a { } message B { } } message a { } message a_ { } message A { } message aa { } message a1 { } enum e { Z1 = 0; } enum E { Z2 = 0; }", "a", "package a1_; message Z { } enum Y { Z3 = 0; } enum e { Z4 = 0; }", "c", "package Z; message a { enum e { Z5 = 0; } } enum a_ { Z6 = 0; }"))
	if l, want := s.Messages(), []string{"A", "Z.a", "a", "a1", "a1_.Z", "a_", "aa", "b", "b.B", "b.a"}; !slices.Equal(l, want) {
		t.Errorf("P705: Messages: %q, want %q", l, want)
	}
	if l, want := s.Enums(), []string{"E", "Z.a.e", "Z.a_", "a1_.Y", "a1_.e", "e"}; !slices.Equal(l, want) {
		t.Errorf("P705: Enums: %q, want %q", l, want)
	}
}

// shuffled puts parts in another order.
func shuffled(r *rand.Rand, parts []string) string {
	l := slices.Clone(parts)
	r.Shuffle(len(l), func(i, j int) { l[i], l[j] = l[j], l[i] })
	return strings.Join(l, " ")
}

func TestMessage(t *testing.T) { // P705: a message, declared in many orders
	want := api.Message{
		Name: "p.M",
		Fields: []api.Field{
			{Number: 1, Name: "x", Json: "x", Card: api.CSingle, Type: api.TString, Oneof: 1},
			{Number: 2, Name: "e_e", Json: "eE", Card: api.CSingle, Type: api.TEnum, Of: "p.E", Oneof: 2},
			{Number: 3, Name: "m", Json: "m", Card: api.CMap, Type: api.TMessage, Of: "p.M.N", Key: api.TInt32},
			{Number: 4, Name: "b", Json: "b", Card: api.COptional, Type: api.TBytes},
			{Number: 5, Name: "r", Json: "r", Card: api.CRepeated, Type: api.TDouble},
			{Number: 6, Name: "_m_", Json: "M", Card: api.CMap, Type: api.TEnum, Of: "p.E", Key: api.TString},
			{Number: 7, Name: "l", Json: "l", Card: api.CRepeated, Type: api.TMessage, Of: "p.M"},
			{Number: 8, Name: "c_d", Json: "cD", Card: api.CSingle, Type: api.TInt32, Oneof: 2},
			{Number: 9, Name: "n", Json: "n", Card: api.CSingle, Type: api.TMessage, Of: "p.M.N"},
			{Number: 10, Name: "y", Json: "y", Card: api.CSingle, Type: api.TBool, Oneof: 3},
			{Number: 11, Name: "z", Json: "z", Card: api.CSingle, Type: api.TFloat, Oneof: 1},
			{Number: 18999, Name: "k", Json: "k", Card: api.CMap, Type: api.TBytes, Key: api.TSfixed64},
			{Number: 536870911, Name: "h", Json: "h", Card: api.COptional, Type: api.TEnum, Of: "p.E"},
		},
		Oneofs:   []string{"q", "o", "a"},
		Reserved: []api.Range{{From: 12, To: 15}, {From: 20, To: 20}, {From: 22, To: 30}, {From: 1000, To: 1001}, {From: 536870000, To: 536870910}},
		Gone:     []string{"Z", "aa", "y_", "zz"},
	}
	r := rand.New(rand.NewSource(705))
	for range 300 {
		body := shuffled(r, []string{
			"N n = 9;", "message N { }", "oneof o { " + shuffled(r, []string{"int32 c_d = 8;", ".p.E e_e = 2;"}) + " }",
			"oneof q { " + shuffled(r, []string{"float z = 11;", "string x = 1;"}) + " }", "oneof a { bool y = 10; }", "map<int32, N> m = 3;", "optional bytes b = 4;",
			"repeated double r = 5;", "map<string, E> _m_ = 6;", "repeated .p.M l = 7;", "map<sfixed64, bytes> k = 18999;", "optional E h = 536870911;",
			"reserved 20;", "reserved 12 to 14, 1000;", "reserved 15;", "reserved 25 to 28;", "reserved 1001, 22 to 24;", "reserved 29 to 30;", "reserved 536870000 to 536870910;", `reserved "zz", "y_";`, `reserved "aa"; reserved "Z";`,
		})
		s := load(t, texts("a", "package p; import 'b'; message M { "+body+" }", "b", "package p; enum E { Z = 0; }"))
		m, e := s.Message("p.M")
		if e != api.OK || !reflect.DeepEqual(m, want) {
			t.Fatalf("P705: %s: %+v, %v", body, m, e)
		}
		for _, f := range want.Fields {
			if got, e := s.Field("p.M", f.Number); got != f || e != api.OK {
				t.Errorf("P706: Field %d: %+v, %v", f.Number, got, e)
			}
			for _, name := range []string{f.Name, f.Json} {
				if got, e := s.Named("p.M", name); got != f || e != api.OK {
					t.Errorf("P706: Named %q: %+v, %v", name, got, e)
				}
			}
		}
	}
}

func TestEnum(t *testing.T) { // P705: an enum, declared in many orders (the zero first, as it must be)
	want := api.Enum{
		Name: "M.E",
		Values: []api.EnumValue{
			{Name: "Z"}, {Name: "L", Number: -2147483648}, {Name: "b", Number: -2}, {Name: "A", Number: -1}, {Name: "y", Number: 1}, {Name: "x", Number: 10}, {Name: "H", Number: 2147483646},
		},
		Reserved: []api.Range{{From: -2147483647, To: -2147483640}, {From: -9, To: -5}, {From: 5, To: 7}, {From: 2147483647, To: 2147483647}},
		Gone:     []string{"G", "g", "gg"},
	}
	r := rand.New(rand.NewSource(705))
	for range 300 {
		body := "Z = 0;" + shuffled(r, []string{"A = -1;", "b = -2;", "L = -2147483648;", "H = 2147483646;", "x = 10;", "y = 1;", "reserved -6 to -5;", "reserved -9 to -7;", "reserved 2147483647 to max;", "reserved 7, 5;", "reserved 6;", "reserved -2147483647 to -2147483640;", `reserved "gg";`, `reserved "g", "G";`})
		d, e := load(t, texts("a", "message M { enum E { "+body+" } }")).Enum("M.E")
		if e != api.OK || !reflect.DeepEqual(d, want) {
			t.Fatalf("P705: %s: %+v, %v", body, d, e)
		}
	}
}

func TestOneofs(t *testing.T) { // P705: oneofs by the least number of their fields, in all orders of their fields
	r := rand.New(rand.NewSource(705))
	for range 800 {
		numbers := r.Perm(9)
		var body []string
		n := 0
		for i := range 1 + r.Intn(4) {
			var fields []string
			for range 1 + r.Intn(2) {
				fields = append(fields, fmt.Sprintf("bool f%d = %d;", n, numbers[n]+1))
				n++
			}
			body = append(body, fmt.Sprintf("oneof o%d { %s }", 9-i, shuffled(r, fields)))
		}
		body = append(body, fmt.Sprintf("bool f%d = %d;", n, numbers[n]+1))
		right(t, "oneofs", texts("a", "message M { "+shuffled(r, body)+" }"))
	}
}

func TestWrongNames(t *testing.T) { // P705 to P707, P4: names of none, and too long ones
	s := load(t, texts("a", "package p; message M { bool a_b = 1; E e = 2; message N { } oneof o { bool c = 3; } } enum E { Z = 0; }"))
	check := func(name string, want api.Errno) {
		t.Helper()
		m, e := s.Message(name)
		if e != want || !alike(m, api.Message{}) {
			t.Errorf("P705, P4: Message(%.20q): %+v, %v, want %v", name, m, e, want)
		}
		for _, number := range []int{-1, 0, 1, 2} {
			if f, e := s.Field(name, number); e != want || f != (api.Field{}) {
				t.Errorf("P706, P4: Field(%.20q, %d): %+v, %v, want %v", name, number, f, e, want)
			}
		}
		for _, field := range []string{"a_b", "", strings.Repeat("n", 256)} { // the name goes ahead of the field's
			if f, e := s.Named(name, field); e != want || f != (api.Field{}) {
				t.Errorf("P706, P4: Named(%.20q, %.20q): %+v, %v, want %v", name, field, f, e, want)
			}
		}
		if l, e := s.Reach(name); e != want || len(l) != 0 {
			t.Errorf("P707, P4: Reach(%.20q): %q, %v, want %v", name, l, e, want)
		}
	}
	for _, name := range []string{"", ".", "p", "p.", ".p.M", "p.M.", "M", "p.m", "p.M.a_b", "p.M.o", "p.E", "p.N", "N", "p.M.N.N", "p.M\x00", "p.M ", "\xff", strings.Repeat("n", 255), "p.M." + strings.Repeat("N", 251)} {
		check(name, api.ErrName)
	}
	for _, name := range []string{strings.Repeat("n", 256), "p.M." + strings.Repeat("N", 252), strings.Repeat(".", 1<<20)} {
		check(name, api.ErrLong)
	}
	for name, want := range map[string]api.Errno{"": api.ErrName, "p.M": api.ErrName, "p.M.N": api.ErrName, "E": api.ErrName, "p": api.ErrName, "p.E.Z": api.ErrName, strings.Repeat("n", 255): api.ErrName, strings.Repeat("n", 256): api.ErrLong} {
		if d, e := s.Enum(name); e != want || !alike(d, api.Enum{}) {
			t.Errorf("P705, P4: Enum(%.20q): %+v, %v, want %v", name, d, e, want)
		}
	}
	for _, number := range []int{-1 << 63, -1, 0, 4, 5, 536870911, 1<<63 - 1, 1<<32 + 1} {
		if f, e := s.Field("p.M", number); e != api.ErrArg || f != (api.Field{}) {
			t.Errorf("P706, P4: Field(p.M, %d): %+v, %v", number, f, e)
		}
	}
	for field, want := range map[string]api.Errno{"": api.ErrArg, "A_b": api.ErrArg, "ab": api.ErrArg, "AB": api.ErrArg, "a__b": api.ErrArg, "o": api.ErrArg, "N": api.ErrArg, "Z": api.ErrArg, "p.M.e": api.ErrArg, strings.Repeat("n", 255): api.ErrArg, strings.Repeat("n", 256): api.ErrLong, strings.Repeat("n", 1<<20): api.ErrLong} {
		if f, e := s.Named("p.M", field); e != want || f != (api.Field{}) {
			t.Errorf("P706, P4: Named(p.M, %.20q): %+v, %v, want %v", field, f, e, want)
		}
	}
	if f, e := s.Field("p.M.N", 1); e != api.ErrArg || f != (api.Field{}) {
		t.Errorf("P706: a field of a message without fields: %+v, %v", f, e)
	}
}

func TestLongestNames(t *testing.T) { // P705, P706: names of the greatest length are found
	name, field := strings.Repeat("n", 254), strings.Repeat("f", 255)
	s := load(t, texts("a", "message "+name+" { bool "+field+" = 536870911; }"))
	want := api.Field{Number: 536870911, Name: field, Json: field, Card: api.CSingle, Type: api.TBool}
	if m, e := s.Message(name); e != api.OK || m.Name != name || !slices.Equal(m.Fields, []api.Field{want}) {
		t.Errorf("P705: %+v, %v", m, e)
	}
	if f, e := s.Named(name, field); f != want || e != api.OK {
		t.Errorf("P706: %+v, %v", f, e)
	}
	if f, e := s.Field(name, 536870911); f != want || e != api.OK {
		t.Errorf("P706: %+v, %v", f, e)
	}
}

func TestNamed(t *testing.T) { // P706: names and JSON names of other fields
	s := load(t, texts("a", "message M { bool a_b = 1; bool A_ = 2; bool _ = 3; bool c_d_e = 4; bool x = 6; bool _x = 7; bool x_y_ = 8; bool XY = 9; } message N { bool aB = 1; bool X = 2; bool a__b_c = 3; }"))
	for _, c := range []struct {
		message, name string
		number        int // 0: none
	}{
		{"M", "a_b", 1}, {"M", "aB", 1}, {"M", "AB", 0}, {"M", "A_", 2}, {"M", "A", 2}, {"M", "a", 0}, {"M", "_", 3}, {"M", "", 3}, {"M", "__", 0}, {"M", "c_d_e", 4}, {"M", "cDE", 4}, {"M", "cD_E", 0},
		{"M", "x", 6}, {"M", "_x", 7}, {"M", "X", 7}, {"M", "x_y_", 8}, {"M", "xY", 8}, {"M", "x_y", 0}, {"M", "XY", 9}, {"M", "xy", 0},
		{"N", "aB", 1}, {"N", "a_b", 0}, {"N", "X", 2}, {"N", "_x", 0}, {"N", "", 0}, {"N", "a__b_c", 3}, {"N", "aBC", 3}, {"N", "a_b_c", 0},
	} {
		f, e := s.Named(c.message, c.name)
		if f.Number != c.number || (e == api.OK) != (c.number != 0) || e != api.OK && e != api.ErrArg {
			t.Errorf("P706: Named(%s, %q): %+v, %v, want the number %d", c.message, c.name, f, e, c.number)
		}
	}
}

func TestReach(t *testing.T) { // P707: rings, ways over maps, lists and oneofs, and what is not come to
	s := load(t, texts(
		"a", "import 'b'; message A { p.B b = 1; } message Z { } message Self { Self s = 1; } message In { message Deep { Z z = 1; } enum E { Z = 0; } } message Of { In i = 1; }",
		"b", "package p; import 'c'; message B { repeated C c = 1; map<string, .p.D> d = 2; oneof o { E e = 3; } optional bool f = 4; }",
		"c", "package p; import 'a'; import 'd'; message C { .A a = 1; } message D { F f = 1; q.G g = 2; } enum E { Z = 0; } enum F { Z = 0; } enum H { Z = 0; }",
		"d", "package q; import 'b'; message G { map<int32, p.B> b = 1; } message Alone { G g = 1; }",
	))
	ring := []string{"A", "p.B", "p.C", "p.D", "p.E", "p.F", "q.G"}
	for name, want := range map[string][]string{
		"A": ring, "p.B": ring, "p.C": ring, "p.D": ring, "q.G": ring, "q.Alone": {"A", "p.B", "p.C", "p.D", "p.E", "p.F", "q.Alone", "q.G"},
		"Z": {"Z"}, "Self": {"Self"}, "In": {"In"}, "In.Deep": {"In.Deep", "Z"}, "Of": {"In", "Of"},
	} {
		if l, e := s.Reach(name); !slices.Equal(l, want) || e != api.OK {
			t.Errorf("P707: Reach(%s): %q, %v, want %q", name, l, e, want)
		}
	}
	for _, name := range []string{"p.E", "p.F", "p.H", "In.E", "p", ""} {
		if l, e := s.Reach(name); e != api.ErrName || len(l) != 0 {
			t.Errorf("P707: Reach(%s): %q, %v", name, l, e)
		}
	}
	var chain strings.Builder
	for i := range 512 {
		fmt.Fprintf(&chain, "message M%03d { M%03d next = 1; }", i, (i+1)%512)
	}
	far := load(t, texts("a", chain.String()))
	if l, e := far.Reach("M300"); !slices.Equal(l, far.Messages()) || len(l) != 512 || e != api.OK {
		t.Errorf("P707: a ring of 512: %d, %v", len(l), e)
	}
}
