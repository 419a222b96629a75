package project_test

import (
	"fmt"
	"slices"
	"strings"
	"testing"

	"sigil/api"
	"sigil/tree"
)

// A type that loses something by each line, through each card.
const (
	oldLost = "message M { int32 n = 1; optional int32 z = 2; M m = 3; repeated M l = 4; map<string, M> d = 5; oneof o { bool b = 6; M x = 7; } map<bool, M> e = 1000; repeated M g = 536870911; M gone = 8; repeated M gones = 9; map<int32, M> goned = 10; }"
	newLost = "message M { reserved 1, 8 to 10; int32 z = 2; repeated M m = 3; repeated M l = 4; map<string, M> d = 5; bool b = 6; M x = 7; map<int32, M> e = 1000; repeated M g = 536870911; }"
)

func TestTrails(t *testing.T) { // P1503: trails through fields, lists and maps, in the order of the walk
	w := of(t, oldLost, newLost)
	p := w.plan(t)
	n, z := at(1, num(5)), at(2, num(0))
	for _, c := range []struct {
		v    api.Value
		lost string
	}{
		{msg(), ""}, {msg(at(2, num(1))), ""}, {msg(n), "1"}, {msg(z), "2"}, {msg(n, z), "1 2"}, {msg(n, at(2, num(1))), "1"}, {one(6, num(0)), "6"}, {one(6, num(1)), ""},
		{one(3, msg(n, z)), "3.1 3.2"},                                              // the list that a message comes into is in no trail
		{one(7, one(3, one(7, msg(z)))), "7.3.7.2"},                                 //
		{one(4, list(msg(n), msg(), msg(z), msg(n, z))), "4.0.1 4.2.2 4.3.1 4.3.2"}, //
		{one(4, list(msg(), one(4, list(msg(), msg(), msg(z))))), "4.1.4.2.2"},
		{one(5, dict(pair(text(""), msg(n)), pair(text("a"), msg()), pair(text("b"), msg(z)))), "5.0.2.1 5.2.2.2"},
		{one(1000, dict(pair(num(0), msg(z)), pair(num(1), one(1000, dict(pair(num(1), msg(n))))))), "1000.0.2.2 1000.1.2.1000.0.2.1"},
		{one(536870911, list(msg(), one(536870911, list(msg(n))))), "536870911.1.536870911.0.1"},
		{one(5, dict(pair(text("k"), one(4, list(msg(), one(3, one(5, dict(pair(text("q"), msg(z)))))))))), "5.0.2.4.1.3.5.0.2.2"},
		// What lies ahead, within and behind, by the fields' numbers.
		{msg(n, z, at(3, msg(n)), at(4, list(msg(z))), at(5, dict(pair(text("x"), msg(n)))), at(7, msg(z)), at(1000, dict(pair(num(0), msg(z))))), "1 2 3.1 4.0.2 5.0.2.1 7.2 1000.0.2.2"},
		{msg(n, at(3, msg(n, at(3, msg(n)), at(4, list(msg(n))))), at(4, list(msg(n)))), "1 3.1 3.3.1 3.4.0.1 4.0.1"},
		// Nothing is told of what lies in a field that is left out.
		{one(8, msg(n, z)), "8"}, {one(8, one(8, msg(n))), "8"}, {one(9, list(msg(n), msg(z))), "9"}, {one(10, dict(pair(num(1), msg(n)))), "10"},
		{one(3, msg(n, at(8, msg(n)), at(9, list(msg(n), msg(z))), at(10, dict(pair(num(0), msg(z)))), at(536870911, list(msg(z))))), "3.1 3.8 3.9 3.10 3.536870911.0.2"},
	} {
		lost := strings.Fields(c.lost)
		r, _ := w.decoded(t, c.v)
		w.makes(t, p, c.v, r, lost...)
		if got := missing(c.v, r); !slices.Equal(got, lost) {
			t.Errorf("P1503: the reading of %s has not %q, want %q", short(c.v), got, lost)
		}
	}
}

func TestOrderOfTheWalk(t *testing.T) { // P1503: the trails stand in the order in which tree.Walk comes to them, and each stands in the tree
	w := of(t, oldLost, newLost)
	p := w.plan(t)
	many := 0
	for seed := range int64(200) {
		v := newMaker(seed).normal(t, w.from, "M")
		l, e := p.Lost(v)
		if e != api.OK {
			t.Fatal(e)
		}
		if len(l) > 10 {
			many++
		}
		all, _ := tree.Walk(w.from, "M", v)
		rest := l
		for trail := range all {
			if len(rest) > 0 && rest[0] == numbers(trail) {
				rest = rest[1:]
			}
		}
		if len(rest) > 0 {
			t.Fatalf("P1503: %q of %q are not met in their turn in the walk of %s", rest, l, short(v))
		}
	}
	if many < 30 {
		t.Errorf("%d trees lose much: too few", many)
	}
}

func TestIndexes(t *testing.T) { // P1503: indexes of many digits
	w := of(t, oldLost, newLost)
	var l []api.Value
	var want []string
	for i := range 12345 {
		if i%7 == 3 || i > 12300 {
			l = append(l, one(2, num(0)))
			want = append(want, fmt.Sprintf("4.%d.2", i))
		} else {
			l = append(l, msg())
		}
	}
	got, e := w.plan(t).Lost(one(4, list(l...)))
	if e != api.OK || !slices.Equal(got, want) {
		t.Errorf("P1503: %d trails, %v, want %d", len(got), e, len(want))
	}
}

func TestMuchLost(t *testing.T) { // P1503: as many trails as a message can have, far below
	w := of(t, "message M { M m = 1; repeated M l = 2; optional bool b = 3; }", "message M { M m = 1; repeated M l = 2; bool b = 3; }")
	in := make([]api.Value, api.MaxMessage/4-100)
	for i := range in {
		in[i] = one(3, num(0))
	}
	v := chain(60, 1, one(2, list(in...)))
	l, e := w.plan(t).Lost(v)
	if e != api.OK || len(l) != len(in) {
		t.Fatalf("P1503: %d trails, %v, want %d", len(l), e, len(in))
	}
	ahead := strings.Repeat("1.", 60)
	for i, got := range l {
		if got != fmt.Sprintf("%s2.%d.3", ahead, i) {
			t.Fatalf("P1503: the trail %d is %s", i, got)
		}
	}
}

func TestLostIsNotRead(t *testing.T) { // P1503: what lies in a field that is left out is looked at by no pair: its types may be any
	w := of(t, "message M { N n = 1; int32 a = 2; } message N { N n = 1; int32 x = 2; string y = 3; }", "message M { reserved 1; int32 a = 2; } message N { int32 n = 1; map<int32, int32> x = 2; }")
	w.becomes(t, msg(at(1, msg(at(1, one(2, num(1))), at(2, num(2)), at(3, text("y")))), at(2, num(3))), one(2, num(3)), "1")
}
