package compat_test

import (
	"strings"
	"testing"

	"sigil/api"
)

func TestNamesAreNothing(t *testing.T) { // P1406: names of fields, oneofs, messages, enums and packages changed alone
	old := "package p; message M { int32 a = 1; oneof o { N b = 2; string c = 3; } map<int32, N.K> d = 4; repeated E e = 5; reserved 9; reserved \"g\"; } message N { message K { M m = 1; } K k = 2; } enum E { Z = 0; A = 1; }"
	for _, swap := range [][]string{
		{}, {" a =", " z ="}, {" b =", " c =", " c =", " b ="}, {"oneof o", "oneof other"}, {"K", "Other"}, {"package p", "package q.r"}, {"package p;", ""}, {"A = 1", "B = -7"}, {"E ", "F "}, {`"g"`, `"h"`}, {"reserved 9;", ""},
		{"int32 a = 1;", "", "enum E", " enum Q { Y = 0; } enum E", "reserved 9;", "reserved 9; int32 first = 1;"},
	} {
		now := strings.NewReplacer(swap...).Replace(old)
		reads := "p.M"
		switch {
		case strings.Contains(now, "q.r"):
			reads = "q.r.M"
		case !strings.Contains(now, "package"):
			reads = "M"
		}
		q := between(t, old, "p.M", now, reads)
		q.breaks(t)
		l, e := q.pairs()
		if e != api.OK || len(l) != 3 || numbers(l[1].Path) != "2" || numbers(l[2].Path) != "4" {
			t.Errorf("P1406: %v: pairs %q, %v", swap, toldPairs(l), e)
		}
	}
	// Breaks are the same under other names, but for Old and New.
	of(t, "message M { int32 a = 1; N n = 2; } message N { bytes b = 1; }", "message M { int32 x = 1; Other y = 2; } message Other { string z = 1; }").breaks(t, "type N>Other 2.1")
	of(t, "message M { int32 a = 1; int32 b = 2; }", "message M { int32 b = 1; int32 a = 2; }").breaks(t)
	of(t, "message M { int32 a = 1; string b = 2; }", "message M { string b = 1; int32 a = 2; }").breaks(t, "type M>M 1", "type M>M 2")
	between(t, "message M { int32 a = 1; message N { } } message N { }", "M.N", "message A { int32 a = 1; }", "A").breaks(t)
	between(t, "message M { int32 a = 1; message N { } } message N { }", "M", "message A { sint32 a = 1; }", "A").breaks(t, "type M>A 1")
}

func TestEnumsAreNothing(t *testing.T) { // P1406: of enums nothing is looked at: they are open
	of(t, "message M { E e = 1; repeated E f = 2; map<bool, E> g = 3; } enum E { Z = 0; A = 1; B = 2; }", "message M { F e = 1; repeated F f = 2; map<bool, F> g = 3; } enum F { Y = 0; reserved 1 to max; }").breaks(t)
	of(t, "message M { E e = 1; } enum E { Z = 0; }", "message M { E e = 1; message E { } }").breaks(t, "message M>M 1")
}

func TestItselfFine(t *testing.T) { // P1407: every type with itself is fine; it meets itself alone, and what it reaches
	texts := []string{
		"message M { }", "message M { M m = 1; }", "message M { N n = 1; } message N { M m = 1; int32 x = 7; reserved 8; }",
		"message M { int32 a = 1; oneof o { int32 b = 2; M c = 3; } oneof p { int32 d = 4; int32 e = 5; } reserved 9, 11 to 20; }",
		ring("A", 512, ""), grid("A", 256, 1, 2, ""), star("A", 511, ""), many("M", 512, ""), wide(),
	}
	for seed := range int64(200) {
		texts = append(texts, newMaker(seed).schema().text("A"))
	}
	for _, text := range texts {
		s, again := load(t, text), load(t, text)
		for i, name := range s.Messages() {
			if i > 10 && i%50 != 0 {
				continue // of many types some are enough
			}
			for _, q := range []question{{side{s, name}, side{s, name}}, {side{s, name}, side{again, name}}} {
				if b, e := q.check(); e != api.OK || told(b) != "fine" {
					t.Fatalf("P1407: Check of %s with itself: %q, %v", name, told(b), e)
				}
				if l, e := q.all(); e != api.OK || len(l) > 0 {
					t.Fatalf("P1407: All of %s with itself: %q, %v", name, toldAll(l), e)
				}
			}
			itselfMeets(t, side{s, name})
		}
	}
}

// itselfMeets looks at the pairs of a type with itself.
func itselfMeets(t *testing.T, x side) {
	t.Helper()
	l, e := question{x, x}.pairs()
	var got, want []string
	for _, p := range l {
		if p.Old != p.New {
			t.Fatalf("P1407: of %s with itself %s meets %s", x.name, p.Old, p.New)
		}
		got = append(got, p.Old)
	}
	all, _ := x.s.Reach(x.name)
	for _, name := range all {
		if _, e := x.s.Message(name); e == api.OK {
			want = append(want, name)
		}
	}
	if e != api.OK || strings.Join(sorted(got), " ") != strings.Join(want, " ") || len(l) > api.MaxTypes {
		t.Fatalf("P1407: of %s with itself %d pairs, %v, want %d", x.name, len(l), e, len(want))
	}
}
