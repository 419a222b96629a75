package compat_test

import (
	"fmt"
	"slices"
	"strings"
	"testing"

	"sigil/api"
)

// star is the text of a message M that holds others by the fields 1 and on, each of another type without fields.
func star(letter string, n int, others string) string {
	var b strings.Builder
	b.WriteString("message M {")
	for i := 1; i <= n; i++ {
		fmt.Fprintf(&b, "%[1]s%[2]d f%[2]d = %[2]d;", letter, i)
	}
	b.WriteString(others + "}")
	for i := 1; i <= n; i++ {
		fmt.Fprintf(&b, "message %s%d { }", letter, i)
	}
	return b.String()
}

func TestWhatMeets(t *testing.T) { // P1403: fields by which pairs are found: of both types, of messages, with Widens 0, of every card
	inner := " message N { } message O { }"
	for _, c := range []struct {
		old, now string
		want     []string
	}{
		{"N n = 1;", "O n = 1;", []string{"N>O 1"}},
		{"N n = 1;", "N n = 2; O o = 1;", []string{"N>O 1"}}, // the number decides, not the name
		{"N n = 1;", "N n = 2;", nil},
		{"N n = 1;", "reserved 1;", nil},
		{"", "N n = 1;", nil},
		{"optional N n = 1;", "N n = 1;", []string{"N>N 1"}},
		{"N n = 1;", "optional N n = 1;", []string{"N>N 1"}},
		{"N n = 1;", "repeated N n = 1;", []string{"N>N 1"}},
		{"optional N n = 1;", "repeated N n = 1;", []string{"N>N 1"}},
		{"repeated N n = 1;", "repeated O n = 1;", []string{"N>O 1"}},
		{"oneof o { N n = 1; }", "N n = 1;", []string{"N>N 1"}},
		{"N n = 1;", "oneof o { O n = 1; }", []string{"N>O 1"}},
		{"oneof o { N n = 1; }", "repeated N n = 1;", []string{"N>N 1"}},
		{"map<string, N> n = 1;", "map<string, O> n = 1;", []string{"N>O 1"}},
		{"map<bool, N> n = 1;", "map<uint64, N> n = 1;", []string{"N>N 1"}},
		{"repeated N n = 1;", "N n = 1;", nil},                 // BCard
		{"map<string, N> n = 1;", "repeated N n = 1;", nil},    // BCard
		{"N n = 1;", "map<string, N> n = 1;", nil},             // BCard
		{"map<int32, N> n = 1;", "map<sint32, N> n = 1;", nil}, // BKey
		{"N n = 1;", "bytes n = 1;", nil},                      // BMessage
		{"bytes n = 1;", "N n = 1;", nil},
		{"map<string, N> n = 1;", "map<string, bytes> n = 1;", nil},
		{"int32 n = 1;", "int32 n = 1;", nil},
		{"E n = 1;", "E n = 1;", nil}, // an enum is no message
		{"N n = 536870911; O o = 1;", "O o = 536870911; N n = 1;", []string{"O>N 1", "N>O 536870911"}},
		{"N a = 1; N b = 2; O c = 3; O d = 4;", "N a = 1; O b = 2; N c = 3; N d = 4;", []string{"N>N 1", "N>O 2", "O>N 3"}},
	} {
		text := func(fields string) string { return "message M { " + fields + " } enum E { Z = 0; }" + inner }
		of(t, text(c.old), text(c.now)).meets(t, slices.Concat([]string{"M>M "}, c.want)...)
	}
}

func TestBrokenElsewhere(t *testing.T) { // P1403: what else is broken does not end the search, nor does what is broken in a pair hide what lies below
	q := of(t, "message M { int32 a = 1; N n = 2; int32 b = 3; int32 c = 4; repeated N d = 5; O o = 6; } message N { O o = 1; int32 gone = 2; } message O { int32 x = 1; }",
		"message M { N n = 2; oneof v { int32 b = 3; int32 c = 4; } N d = 5; O o = 6; } message N { O o = 1; } message O { sint32 x = 1; }")
	q.meets(t, "M>M ", "N>N 2", "O>O 6")
	q.breaks(t, "gone M>M 1", "card M>M 5", "oneof M>M 3", "gone N>N 2.2", "type O>O 6.1")
}

func TestItself(t *testing.T) { // P1403: types that hold themselves and one another
	of(t, "message M { M m = 1; M n = 2; repeated M l = 3; map<string, M> d = 4; }", "message M { M m = 1; M n = 2; repeated M l = 3; map<string, M> d = 4; }").meets(t, "M>M ")
	of(t, "message M { N n = 1; } message N { M m = 1; }", "message M { N n = 1; } message N { M m = 1; }").meets(t, "M>M ", "N>N 1")
	// A type that holds itself against two that hold one another.
	q := of(t, "message M { M m = 1; int32 x = 2; }", "message M { N m = 1; int32 x = 2; } message N { M m = 1; sint32 x = 2; }")
	q.meets(t, "M>M ", "M>N 1")
	q.breaks(t, "type M>N 1.2")
	q = of(t, "message M { N m = 1; int32 x = 2; } message N { M m = 1; sint32 x = 2; }", "message M { M m = 1; int32 x = 2; }")
	q.meets(t, "M>M ", "N>M 1")
	q.breaks(t, "type N>M 1.2")
	// Rings of two and three: every type against every one.
	between(t, ring("A", 2, ""), "A0", ring("B", 3, ""), "B0").meets(t, "A0>B0 ", "A1>B1 1", "A0>B2 1.1", "A1>B0 1.1.1", "A0>B1 1.1.1.1", "A1>B2 1.1.1.1.1")
	between(t, ring("A", 2, ""), "A1", ring("B", 4, ""), "B2").meets(t, "A1>B2 ", "A0>B3 1", "A1>B0 1.1", "A0>B1 1.1.1")
	// The pair that is searched first is found again far below.
	between(t, ring("A", 3, "A0 again = 2;"), "A2", ring("B", 3, "B0 again = 2;"), "B2").meets(t, "A2>B2 ", "A0>B0 1", "A1>B1 1.1")
}

func TestFoundTwice(t *testing.T) { // P1403: a pair that is found by two ways has the path of the first: the nearer one, then the one of the smaller numbers
	const tail = " message N { O o = 1; int32 x = 9; } message O { N n = 1; int32 x = 9; } message P { O o = 1; }"
	both := func(fields string) question {
		return of(t, "message M {"+fields+"}"+tail, "message M {"+fields+"}"+strings.ReplaceAll(tail, "int32", "sint32"))
	}
	q := both("N n = 1; O o = 2;") // O by 2 ahead of 1.1
	q.meets(t, "M>M ", "N>N 1", "O>O 2")
	q.breaks(t, "type N>N 1.9", "type O>O 2.9")
	q = both("O o = 1; N n = 2;")
	q.meets(t, "M>M ", "O>O 1", "N>N 2")
	q.breaks(t, "type O>O 1.9", "type N>N 2.9")
	q = both("N n = 2; P p = 1;") // O by 1.1 of P ahead of 2.1 of N
	q.meets(t, "M>M ", "P>P 1", "N>N 2", "O>O 1.1")
	q.breaks(t, "type N>N 2.9", "type O>O 1.1.9")
	q = both("P p = 5; N n = 3;")
	q.meets(t, "M>M ", "N>N 3", "P>P 5", "O>O 3.1")
	q = both("N a = 9; N b = 7; N c = 8;")
	q.meets(t, "M>M ", "N>N 7", "O>O 7.1")
	// A first way whose field is broken finds nothing; the second one does.
	q = of(t, "message M { repeated N a = 1; N b = 2; } message N { }", "message M { N a = 1; N b = 2; } message N { }")
	q.meets(t, "M>M ", "N>N 2")
	q.breaks(t, "card M>M 1")
}

func TestOneTypeManyPairs(t *testing.T) { // P1403: one old type against many new ones, and many against one; each pair has its own breaks
	q := of(t, "message M { N a = 1; N b = 2; N c = 3; } message N { int32 x = 1; }",
		"message M { X a = 1; Y b = 2; X c = 3; } message X { sint32 x = 1; } message Y { string x = 1; }")
	q.meets(t, "M>M ", "N>X 1", "N>Y 2")
	q.breaks(t, "type N>X 1.1", "type N>Y 2.1")
	q = of(t, "message M { X a = 1; Y b = 2; X c = 3; } message X { sint32 x = 1; } message Y { string x = 1; }",
		"message M { N a = 1; N b = 2; N c = 3; } message N { int32 x = 1; }")
	q.meets(t, "M>M ", "X>N 1", "Y>N 2")
	q.breaks(t, "type X>N 1.1", "type Y>N 2.1")
}

func TestNamesThatJoin(t *testing.T) { // P1403: two pairs whose names, one behind the other, are the same text are two
	q := of(t, "message M { A a = 1; AB b = 2; } message A { } message AB { }", "message M { BC a = 1; C b = 2; } message BC { } message C { }")
	q.meets(t, "M>M ", "A>BC 1", "AB>C 2")
	q = between(t, "package a; message M { b.c x = 1; b y = 2; } message b { message c { } }", "a.M", "package a; message M { b x = 1; b.c y = 2; } message b { message c { } }", "a.M")
	q.meets(t, "a.M>a.M ", "a.b.c>a.b 1", "a.b>a.b.c 2")
	// The same name on both sides, turned round.
	q = of(t, "message M { A a = 1; B b = 2; } message A { } message B { }", "message M { B a = 1; A b = 2; } message A { } message B { }")
	q.meets(t, "M>M ", "A>B 1", "B>A 2")
}

func TestManySources(t *testing.T) { // P1403: types of other packages, in schemas of many sources
	old, bad := bindAll("a", `package p; import "b"; message M { q.N n = 1; message K { int32 x = 1; } }`, "b", `package q; import "a"; message N { p.M m = 1; p.M.K k = 2; }`)
	if bad != (api.Fault{}) {
		t.Fatal(bad)
	}
	now, bad := bindAll("a", `import "b"; message M { r.s.N n = 1; } message K { sint32 x = 1; }`, "b", `package r.s; import "a"; message N { .M m = 1; .K k = 2; }`)
	if bad != (api.Fault{}) {
		t.Fatal(bad)
	}
	q := question{side{old, "p.M"}, side{now, "M"}}
	q.meets(t, "p.M>M ", "q.N>r.s.N 1", "p.M.K>K 1.2")
	q.breaks(t, "type p.M.K>K 1.2.1")
	question{side{old, "q.N"}, side{now, "r.s.N"}}.meets(t, "q.N>r.s.N ", "p.M>M 1", "p.M.K>K 2")
}

func TestLongPaths(t *testing.T) { // P1403: 4032 pairs in a row, each with its own path
	l, e := between(t, ring("A", 63, ""), "A0", ring("B", 64, ""), "B0").pairs()
	if e != api.OK || len(l) != 4032 {
		t.Fatalf("P1403: %d pairs, %v", len(l), e)
	}
	for i, p := range l {
		if p.Old != fmt.Sprint("A", i%63) || p.New != fmt.Sprint("B", i%64) || len(p.Path) != i {
			t.Fatalf("P1403: pair %d is %s, %s with %d steps", i, p.Old, p.New, len(p.Path))
		}
		for _, n := range p.Path {
			if n != 1 {
				t.Fatalf("P1403: pair %d has a step %d", i, n)
			}
		}
	}
	// A break in the last of them.
	q := between(t, ring("A", 63, ""), "A1", ring("B", 64, ""), "B1")
	q.breaks(t)
	q = between(t, ring("A", 63, "int32 x = 2;"), "A1", ring("B", 64, "int64 x = 2;"), "B1")
	b, e := q.check() // A0 meets B2 first, which has no x
	if e != api.OK || b.Rule != api.BGone || b.Old != "A0" || b.New != fmt.Sprint("B", 63) || len(b.Path) != 63 || b.Path[62] != 2 {
		t.Errorf("P1405: %q, %v", told(b), e)
	}
}

func TestMaxPairs(t *testing.T) { // P1401: MaxPairs pairs, and one more, with and without a break of the first pair
	more := func(n int) string {
		return []string{"", "X x = 2;", "X x = 2; Y y = 3;"}[n]
	}
	types := "message X { int32 a = 1; } message Y { int32 a = 1; }"
	other := "message X { sint32 a = 1; } message Y { sint32 a = 1; }"
	// 63 times 65 is 4095: two rings, and what the first of each holds beside.
	for n, want := range []int{4095, 4096, 4097} {
		q := between(t, ring("A", 63, more(n))+types, "A0", ring("B", 65, more(n))+types, "B0")
		broken := between(t, ring("A", 63, "int32 z = 9;"+more(n))+types, "A0", ring("B", 65, more(n))+other, "B0")
		if want > api.MaxPairs {
			q.refuses(t, api.ErrBreaks)
			broken.refuses(t, api.ErrBreaks)
			continue
		}
		l, e := q.pairs()
		if e != api.OK || len(l) != want || toldPairs(l[:1]) != "A0>B0 " {
			t.Errorf("P1403: %d pairs, %v, want %d", len(l), e, want)
		}
		if b, e := q.check(); e != api.OK || told(b) != goneFirst(n) {
			t.Errorf("P1405: Check of %d pairs: %q, %v", want, told(b), e)
		}
		if b, e := broken.check(); e != api.OK || told(b) != "gone A0>B0 9" {
			t.Errorf("P1405: Check of %d pairs with breaks: %q, %v", want, told(b), e)
		}
	}
}

// goneFirst is the first break of two rings of which the first message holds so much more: A0 meets all of the other ring, which has no such fields.
func goneFirst(n int) string {
	if n == 0 {
		return "fine"
	}
	return "gone A0>B63 " + strings.Repeat("1.", 63) + "2"
}

// grid is the text of so many messages, each of which holds the next one by one field and itself by another.
func grid(letter string, n, next, stay int, others string) string {
	var b strings.Builder
	for i := range n {
		fmt.Fprintf(&b, "message %[1]s%[2]d { %[1]s%[3]d next = %[4]d; %[1]s%[2]d stay = %[5]d; %[6]s } ", letter, i, (i+1)%n, next, stay, others)
	}
	return b.String()
}

func TestMaxPairsOfAll(t *testing.T) { // P1401: 64 types against 64, each against each: MaxPairs pairs; one more type: ErrBreaks, also where every pair has a break
	q := between(t, grid("A", 64, 1, 2, ""), "A0", grid("B", 64, 2, 1, ""), "B0")
	q.breaks(t)
	l, e := q.pairs()
	if e != api.OK || len(l) != api.MaxPairs {
		t.Fatalf("P1403: %d pairs, %v", len(l), e)
	}
	if got := toldPairs(l[:6]); got != "A0>B0 , A1>B0 1, A0>B1 2, A2>B0 1.1, A1>B1 1.2, A0>B2 2.2" {
		t.Errorf("P1403: the first pairs are %q", got)
	}
	if last := l[len(l)-1]; last.Old != "A63" || last.New != "B63" || numbers(last.Path) != strings.TrimSuffix(strings.Repeat("1.", 63)+strings.Repeat("2.", 63), ".") {
		t.Errorf("P1403: the last pair is %+v", last)
	}
	between(t, grid("A", 64, 1, 2, "")+"message X { A0 a = 1; A0 b = 2; }", "X", grid("B", 64, 2, 1, "")+"message X { B0 a = 1; B0 b = 2; }", "X").refuses(t, api.ErrBreaks)
	between(t, grid("A", 64, 1, 2, "int32 x = 3;"), "A0", grid("B", 65, 2, 1, ""), "B0").refuses(t, api.ErrBreaks)
	between(t, grid("A", 65, 1, 2, "int32 x = 3;"), "A0", grid("B", 64, 2, 1, "string x = 3;"), "B0").refuses(t, api.ErrBreaks)
	// MaxPairs pairs of which each has a break: Check tells the first, All none.
	q = between(t, grid("A", 64, 1, 2, "int32 x = 3;"), "A0", grid("B", 64, 2, 1, ""), "B0")
	if b, e := q.check(); e != api.OK || told(b) != "gone A0>B0 3" {
		t.Errorf("P1405: Check = %q, %v", told(b), e)
	}
	if l, e := q.all(); e != api.ErrBreaks || len(l) > 0 {
		t.Errorf("P1405: All = %d breaks, %v", len(l), e)
	}
	if l, e := q.pairs(); e != api.OK || len(l) != api.MaxPairs {
		t.Errorf("P1405: %d pairs, %v", len(l), e)
	}
}

func TestFarTooManyPairs(t *testing.T) { // P1, P1401: as many types as a schema may have, of which each would meet each
	between(t, grid("A", api.MaxTypes, 1, 2, ""), "A0", grid("B", api.MaxTypes, 2, 1, ""), "B511").refuses(t, api.ErrBreaks)
	between(t, ring("A", 511, ""), "A7", ring("B", api.MaxTypes, ""), "B9").refuses(t, api.ErrBreaks)
}

func TestManyFields(t *testing.T) { // P1403: as many types and fields as may be
	l, e := of(t, star("A", 511, "int32 x = 600;"), star("B", 511, "int32 x = 600;")).pairs()
	if e != api.OK || len(l) != 512 || toldPairs(l[:3]) != "M>M , A1>B1 1, A2>B2 2" || toldPairs(l[511:]) != "A511>B511 511" {
		t.Errorf("P1403: %d pairs, %v", len(l), e)
	}
}
