package compat_test

import (
	"fmt"
	"strings"
	"testing"

	"sigil/api"
)

func TestGone(t *testing.T) { // P1404: numbers that are gone, reserved at the ends of a range and beside it
	old := "message M { int32 a = 4; int32 b = 5; int32 c = 6; int32 d = 7; int32 e = 8; }"
	for _, c := range []struct {
		now  string
		want string
	}{
		{"", "4 5 6 7 8"}, {"reserved 5 to 7;", "4 8"}, {"reserved 4 to 8;", ""}, {"reserved 1 to max;", ""}, {"reserved 5;", "4 6 7 8"}, {"reserved 7, 5;", "4 6 8"}, {"reserved 8; reserved 4;", "5 6 7"},
		{"reserved 1 to 3;", "4 5 6 7 8"}, {"reserved 1 to 3, 9 to max;", "4 5 6 7 8"}, {"reserved 1 to 4, 8 to max;", "5 6 7"}, {"reserved 1, 3, 5, 7, 9, 11;", "4 6 8"}, {"reserved 2, 4, 6, 8, 10;", "5 7"},
		{"reserved 5 to 6; int32 d = 7;", "4 8"}, {"int32 e = 8; reserved 5 to 7; int64 z = 4;", ""},
		{`reserved "a", "b", "c", "d", "e";`, "4 5 6 7 8"}, // names are nothing
	} {
		var want []string
		for _, n := range strings.Fields(c.want) {
			want = append(want, "gone M>M "+n)
		}
		of(t, old, "message M { "+c.now+" }").breaks(t, want...)
	}
	// The ends of all numbers.
	edges := "message M { int32 a = 1; int32 b = 2; int32 c = 18999; int32 d = 20000; int32 e = 536870910; int32 f = 536870911; }"
	of(t, edges, "message M { reserved 1, 19000 to 19999, 536870911; }").breaks(t, "gone M>M 2", "gone M>M 18999", "gone M>M 20000", "gone M>M 536870910")
	of(t, edges, "message M { reserved 2, 20000 to 536870910; }").breaks(t, "gone M>M 1", "gone M>M 18999", "gone M>M 536870911")
	of(t, edges, "message M { reserved 2 to 18999, 20000 to max; }").breaks(t, "gone M>M 1")
}

func TestReservedElsewhere(t *testing.T) { // P1404: it is the new type itself that must reserve the number
	of(t, "message M { reserved 2; int32 a = 1; }", "message M { }").breaks(t, "gone M>M 1")
	of(t, "message M { reserved 2; int32 a = 1; }", "message M { reserved 1; int32 b = 2; }").breaks(t) // what the old type reserved may come to be
	of(t, "message M { int32 a = 1; N n = 2; } message N { int32 a = 1; }", "message M { reserved 1; N n = 2; } message N { }").breaks(t, "gone N>N 2.1")
	of(t, "message M { int32 a = 1; N n = 2; } message N { int32 a = 1; }", "message M { N n = 2; } message N { reserved 1; }").breaks(t, "gone M>M 1")
	of(t, "message M { N n = 1; } message N { int32 a = 1; }", "message M { reserved 1; } message N { }").breaks(t) // N is not met
	of(t, "message M { }", "message M { int32 a = 1; repeated M m = 2; oneof o { string s = 3; bytes b = 4; } }").breaks(t)
}

func TestManyReserved(t *testing.T) { // P1404: many ranges, each of which is looked at
	var old, now strings.Builder
	for i := 1; i <= 512; i++ {
		fmt.Fprintf(&old, "int32 f%d = %d;", i, 7*i)
	}
	now.WriteString("reserved 1")
	for i := 1; i <= 512; i++ {
		if i%8 != 0 {
			fmt.Fprintf(&now, ", %d to %d", 7*i-i%3, 7*i+i%2)
		} else {
			fmt.Fprintf(&now, ", %d, %d", 7*i-2, 7*i+2)
		}
	}
	var want []string
	for i := 8; i <= 512; i += 8 {
		want = append(want, fmt.Sprint("gone M>M ", 7*i))
	}
	of(t, "message M {"+old.String()+"}", "message M {"+now.String()+";}").breaks(t, want...)
}

func TestFieldsInOrder(t *testing.T) { // P1404: the breaks of a pair by rising number, whatever the order in the text, each rule by itself
	of(t, "message M { int32 g = 70; M f = 6; repeated int32 e = 50; int32 d = 4; map<int32, int32> c = 30; sint32 b = 2; int32 a = 1; M m = 100; }",
		"message M { M m = 100; int32 a = 1; string g = 70; map<string, string> c = 30; int32 e = 50; sint64 b = 2; int32 f = 6; }",
	).breaks(t, "gone M>M 4", "message M>M 6", "key M>M 30", "card M>M 50", "type M>M 70")
}

func TestOneofs(t *testing.T) { // P1404: members that were in none, in one, in two oneofs or outside
	for _, c := range []struct{ old, now, want string }{
		{"int32 a = 1;", "oneof o { int32 a = 1; }", ""},
		{"int32 a = 1;", "oneof o { int32 a = 1; int32 b = 2; int32 c = 3; }", ""}, // one old field alone
		{"", "oneof o { int32 a = 1; int32 b = 2; }", ""},
		{"int32 a = 1; int32 b = 2;", "oneof o { int32 a = 1; int32 b = 2; }", "1"},
		{"int32 b = 2; int32 a = 1;", "oneof o { int32 b = 2; int32 a = 1; }", "1"}, // the least number, not the first in the text
		{"int32 b = 20; int32 c = 3; int32 a = 100;", "oneof o { int32 a = 100; int32 b = 20; int32 c = 3; }", "3"},
		{"int32 a = 1; int32 b = 2;", "oneof o { int32 a = 1; } oneof p { int32 b = 2; }", ""},
		{"int32 a = 1; int32 b = 2;", "oneof o { int32 a = 1; } int32 b = 2;", ""},
		{"oneof o { int32 a = 1; int32 b = 2; }", "oneof o { int32 a = 1; int32 b = 2; }", ""},
		{"oneof o { int32 a = 1; int32 b = 2; }", "oneof other { int32 b = 2; int32 a = 1; }", ""},
		{"oneof o { int32 a = 1; int32 b = 2; }", "oneof o { int32 a = 1; int32 b = 2; int32 c = 3; }", ""},
		{"oneof o { int32 a = 1; int32 b = 2; }", "oneof o { int32 a = 1; } oneof p { int32 b = 2; }", ""},
		{"oneof o { int32 a = 1; int32 b = 2; }", "int32 a = 1; optional int32 b = 2;", ""},
		{"oneof o { int32 a = 1; int32 b = 2; }", "oneof o { int32 a = 1; } int32 b = 2;", ""},
		{"oneof o { int32 a = 1; int32 b = 2; int32 c = 3; }", "oneof o { int32 a = 1; int32 c = 3; } int32 b = 2;", ""},
		{"oneof o { int32 a = 1; int32 b = 2; } int32 c = 3;", "oneof o { int32 a = 1; int32 b = 2; } int32 c = 3;", ""},
		{"oneof o { int32 a = 1; int32 b = 2; } int32 c = 3;", "oneof o { int32 a = 1; int32 b = 2; int32 c = 3; }", "1"},
		{"int32 a = 1; oneof o { int32 b = 2; int32 c = 3; }", "oneof o { int32 a = 1; int32 b = 2; int32 c = 3; }", "1"},
		{"oneof o { int32 a = 1; int32 c = 3; } int32 b = 2;", "oneof o { int32 b = 2; int32 c = 3; } int32 a = 1;", "2"},
		{"oneof o { int32 a = 1; } oneof p { int32 b = 2; }", "oneof o { int32 a = 1; int32 b = 2; }", "1"},
		{"oneof o { int32 a = 1; int32 b = 2; } oneof p { int32 c = 3; int32 d = 4; }", "oneof o { int32 a = 1; int32 c = 3; } oneof p { int32 b = 2; int32 d = 4; }", "1 2"},
		{"oneof o { int32 a = 1; int32 b = 2; } oneof p { int32 c = 3; int32 d = 4; }", "oneof o { int32 c = 3; int32 d = 4; } oneof p { int32 a = 1; int32 b = 2; }", ""},
		{"oneof o { int32 a = 1; int32 b = 2; } oneof p { int32 c = 3; int32 d = 4; }", "oneof o { int32 a = 1; int32 b = 2; int32 c = 3; int32 d = 4; }", "1"},
		{"oneof o { int32 a = 1; int32 b = 2; } oneof p { int32 c = 3; int32 d = 4; }", "oneof o { int32 b = 2; int32 c = 3; } int32 a = 1; int32 d = 4;", "2"},
		// Two oneofs broken in one type, in the order of the new type's oneofs, that is of their least numbers; these may be no field's of the old type.
		{"int32 a = 1; int32 b = 2; int32 c = 3; int32 d = 4;", "oneof p { int32 c = 3; int32 d = 4; } oneof o { int32 a = 1; int32 b = 2; }", "1 3"},
		{"int32 a = 1; int32 b = 2; int32 c = 3; int32 d = 4;", "oneof p { int32 a = 1; int32 d = 4; } oneof o { int32 c = 3; int32 b = 2; }", "1 2"},
		{"int32 b = 12; int32 c = 13; int32 d = 14; int32 e = 15;", "oneof z { int32 d = 14; int32 e = 15; int32 f = 1; } oneof a { int32 b = 12; int32 c = 13; int32 g = 2; }", "14 12"},
		{"int32 b = 12; int32 c = 13; int32 d = 14; int32 e = 15;", "oneof a { int32 d = 14; int32 e = 15; int32 f = 2; } oneof z { int32 b = 12; int32 c = 13; int32 g = 1; }", "12 14"},
		{"int32 a = 1; int32 b = 2; oneof x { int32 c = 3; int32 d = 4; } int32 e = 5; int32 f = 6;", "oneof o { int32 a = 1; int32 b = 2; } oneof p { int32 c = 3; int32 d = 4; } oneof q { int32 e = 5; int32 f = 6; }", "1 5"},
		// Fields of other cards than single.
		{"optional int32 a = 1; optional int32 b = 2;", "oneof o { int32 a = 1; int32 b = 2; }", "1"},
		{"optional int32 a = 1;", "oneof o { int32 a = 1; }", ""},
		{"M a = 1; M b = 2;", "oneof o { M a = 1; M b = 2; }", "1"},
		{"oneof o { M a = 1; M b = 2; }", "repeated M a = 1; repeated M b = 2;", ""},
		// What is gone is no member, reserved as it may be.
		{"int32 a = 1; int32 b = 2;", "oneof o { int32 a = 1; int32 c = 3; } reserved 2;", ""},
	} {
		var want []string
		for _, n := range strings.Fields(c.want) {
			want = append(want, "oneof M>M "+n)
		}
		of(t, "message M { "+c.old+" }", "message M { "+c.now+" }").breaks(t, want...)
	}
}

func TestOneofsBehindFields(t *testing.T) { // P1404: oneofs behind all fields of a pair; members whose field is broken count too
	of(t, "message M { int32 a = 1; int32 b = 2; int32 z = 9; }", "message M { oneof o { sint32 a = 1; int32 b = 2; } }").breaks(t, "type M>M 1", "gone M>M 9", "oneof M>M 1")
	of(t, "message M { repeated int32 a = 1; map<bool, int32> b = 2; M c = 3; }", "message M { oneof o { int32 a = 1; int32 b = 2; int32 c = 3; } }").breaks(t, "card M>M 1", "card M>M 2", "message M>M 3", "oneof M>M 1")
	of(t, "message M { repeated int32 a = 1; int32 b = 2; }", "message M { oneof o { int32 a = 1; } oneof p { int32 b = 2; } }").breaks(t, "card M>M 1")
	of(t, "message M { int32 a = 1; N n = 2; int32 b = 3; } message N { int32 x = 1; int32 y = 2; int32 z = 3; }",
		"message M { oneof o { int32 a = 1; N n = 2; } } message N { oneof o { int32 x = 1; int32 z = 3; } string y = 2; }",
	).breaks(t, "gone M>M 3", "oneof M>M 1", "type N>N 2.2", "oneof N>N 2.1")
}

func TestBelow(t *testing.T) { // P1404, P1405: breaks below others, of many steps; all of a pair ahead of the next pair's
	chain := func(typ string) string {
		return "message M { A a = 3; int32 x = 9; } message A { repeated B b = 5; int32 x = 9; } message B { map<string, C> c = 7; int32 x = 9; } message C { oneof o { D d = 11; " + typ + " x = 9; } } message D { " + typ + " x = 9; M m = 1; }"
	}
	of(t, chain("int32"), chain("sint32")).breaks(t, "type C>C 3.5.7.9", "type D>D 3.5.7.11.9")
	of(t, chain("int32"), chain("int64")).breaks(t)
	of(t, "message M { A a = 1; B b = 2; int32 x = 3; } message A { B b = 1; int32 x = 2; int32 y = 3; } message B { int32 x = 1; }",
		"message M { A a = 1; B b = 2; } message A { B b = 1; } message B { }",
	).breaks(t, "gone M>M 3", "gone A>A 1.2", "gone A>A 1.3", "gone B>B 2.1")
	// Check tells the first pair that has a break, whatever lies deeper, or at a smaller number.
	q := of(t, "message M { A a = 1; B b = 2; } message A { C c = 1; } message B { int32 x = 9; } message C { int32 x = 1; }",
		"message M { A a = 1; B b = 2; } message A { C c = 1; } message B { } message C { }")
	q.breaks(t, "gone B>B 2.9", "gone C>C 1.1.1")
}

// many is the text of a message with so many int32 fields.
func many(name string, n int, others string) string {
	var b strings.Builder
	fmt.Fprintf(&b, "message %s {", name)
	for i := 1; i <= n; i++ {
		fmt.Fprintf(&b, "int32 f%[1]d = %[1]d;", i)
	}
	return b.String() + others + "} "
}

// tooMany looks at a question with more than MaxBreaks breaks, of which Check tells the first.
func tooMany(t *testing.T, q question, first string) {
	t.Helper()
	if l, e := q.all(); e != api.ErrBreaks || len(l) > 0 {
		t.Errorf("P1405: All = %d breaks, %v, want ErrBreaks", len(l), e)
	}
	if b, e := q.check(); e != api.OK || told(b) != first {
		t.Errorf("P1405: Check = %q, %v, want %q", told(b), e, first)
	}
	if l, e := q.pairs(); e != api.OK || len(l) == 0 {
		t.Errorf("P1405: Pairs = %d, %v", len(l), e)
	}
}

func TestMaxBreaks(t *testing.T) { // P1405: MaxBreaks breaks, and one more: in one pair, in the next, as a oneof
	rows := func(n int, path string) []string {
		var l []string
		for i := 1; i <= n; i++ {
			l = append(l, fmt.Sprint(path, i))
		}
		return l
	}
	of(t, many("M", 255, ""), "message M { }").breaks(t, rows(255, "gone M>M ")...)
	of(t, many("M", 256, ""), "message M { }").breaks(t, rows(256, "gone M>M ")...)
	tooMany(t, of(t, many("M", 257, ""), "message M { }"), "gone M>M 1")
	tooMany(t, of(t, many("M", 512, ""), "message M { }"), "gone M>M 1")

	two := func(m, n int) string { return many("M", m, "N n = 1000;") + many("N", n, "") }
	empty := "message M { N n = 1000; } message N { }"
	of(t, two(200, 56), empty).breaks(t, append(rows(200, "gone M>M "), rows(56, "gone N>N 1000.")...)...)
	tooMany(t, of(t, two(200, 57), empty), "gone M>M 1")
	of(t, two(0, 256), empty).breaks(t, rows(256, "gone N>N 1000.")...)
	tooMany(t, of(t, two(0, 257), empty), "gone N>N 1000.1")
	of(t, two(256, 0), empty).breaks(t, rows(256, "gone M>M ")...)
	tooMany(t, of(t, two(256, 1), empty), "gone M>M 1")

	pair := "int32 y = 1001; int32 z = 1002;"
	oneof := "message M { oneof o { int32 y = 1001; int32 z = 1002; } }"
	of(t, many("M", 255, pair), oneof).breaks(t, append(rows(255, "gone M>M "), "oneof M>M 1001")...)
	tooMany(t, of(t, many("M", 256, pair), oneof), "gone M>M 1")
}

func TestManyOneofs(t *testing.T) { // P1404, P1405: as many oneofs as break a type
	text := func(n int) (string, string, []string) {
		var old, now strings.Builder
		var want []string
		for i := 1; i <= n; i++ {
			a, b := fmt.Sprintf("int32 a%d = %d;", i, i), fmt.Sprintf("int32 b%d = %d;", i, 2000-i)
			old.WriteString(a + b)
			fmt.Fprintf(&now, "oneof o%d { %s %s }", i, a, b)
			want = append(want, fmt.Sprint("oneof M>M ", i))
		}
		return "message M {" + old.String() + "}", "message M {" + now.String() + "}", want
	}
	old, now, want := text(256)
	of(t, old, now).breaks(t, want...)
	of(t, now, old).breaks(t)
}
