package project_test

import (
	"strings"
	"testing"

	"sigil/api"
	"sigil/compat"
	"sigil/project"
)

func TestNames(t *testing.T) { // P1501, P8: the names, each by itself and both at a time, wrote ahead of reads
	longest := strings.Repeat("n", api.MaxName-1) // no full name is longer
	s := load(t, "package p; message M { int32 a = 1; message N { } } enum E { Z = 0; }")
	q := load(t, "message "+longest+" { }")
	for _, c := range []struct {
		name string
		want api.Errno
	}{
		{"", api.ErrName}, {"M", api.ErrName}, {"p", api.ErrName}, {".p.M", api.ErrName}, {"p.E", api.ErrName}, {"p.m", api.ErrName}, {"p.M\x00", api.ErrName}, {"\xff", api.ErrName},
		{strings.Repeat("x", api.MaxName), api.ErrName}, {longest + "n", api.ErrName},
		{strings.Repeat("x", api.MaxName+1), api.ErrLong}, {longest + "nn", api.ErrLong}, {strings.Repeat("x", 1<<20), api.ErrLong},
	} {
		for _, right := range []way{{s, "p.M", s, "p.M"}, {s, "p.M.N", q, longest}, {q, longest, s, "p.M.N"}} {
			way{right.from, c.name, right.to, right.reads}.fails(t, c.want)
			way{right.from, right.wrote, right.to, c.name}.fails(t, c.want)
			for _, wrong := range []string{"", "x", strings.Repeat("y", api.MaxName), strings.Repeat("y", api.MaxName+1)} {
				way{right.from, c.name, right.to, wrong}.fails(t, c.want)
			}
			right.becomes(t, msg(), msg())
		}
	}
}

func TestNamesOfTheOther(t *testing.T) { // P1501: wrote is looked up in from, reads in to
	a, b, none := load(t, "message A { int32 x = 1; }"), load(t, "message B { int64 x = 1; }"), load(t, "")
	way{a, "A", b, "B"}.becomes(t, one(1, num(5)), one(1, num(5)))
	for _, w := range []way{{a, "B", b, "B"}, {a, "A", b, "A"}, {a, "B", b, "A"}, {none, "A", b, "B"}, {a, "A", none, "B"}} {
		w.fails(t, api.ErrName)
	}
	way{b, "B", a, "A"}.fails(t, api.ErrCompat)
}

func TestOrderOfErrorsOfNew(t *testing.T) { // P1501: the names ahead of the pairs, the pairs ahead of the breaks
	a, b := load(t, ring("A", 64, "int32 x = 2;")), load(t, ring("B", 65, ""))
	way{a, "A0", b, "B0"}.fails(t, api.ErrBreaks)
	way{a, "A64", b, "B0"}.fails(t, api.ErrName)
	way{a, "A0", b, "B65"}.fails(t, api.ErrName)
	way{a, "A0", b, strings.Repeat("B", api.MaxName+1)}.fails(t, api.ErrLong)
	way{a, strings.Repeat("A", api.MaxName+1), b, "B65"}.fails(t, api.ErrLong)
	between(t, ring("A", 63, "int32 x = 2;"), "A0", ring("B", 64, ""), "B0").fails(t, api.ErrCompat)
	between(t, "message M { int32 a = 1; }", "M", "message M { }", "N").fails(t, api.ErrName)
}

func TestBreaks(t *testing.T) { // P1501: a break of each rule, in the first pair and in one far below, alone and as one of many
	for _, c := range []struct{ old, now string }{
		{"int32 a = 1;", ""},                                                   // BGone
		{"int32 a = 1;", "reserved 2;"},                                        //
		{"int32 a = 1;", "sint32 a = 1;"},                                      // BType
		{"int64 a = 1;", "int32 a = 1;"},                                       //
		{"bytes a = 1;", "string a = 1;"},                                      //
		{"repeated int32 a = 1;", "int32 a = 1;"},                              // BCard
		{"int32 a = 1;", "map<int32, int32> a = 1;"},                           //
		{"map<int32, int32> a = 1;", "map<sint32, int32> a = 1;"},              // BKey
		{"int32 a = 1; int32 b = 2;", "oneof o { int32 a = 1; int32 b = 2; }"}, // BOneof
		{"bytes a = 1;", "K a = 1;"},                                           // BMessage
		{"K a = 1;", "bytes a = 1;"},                                           //
		{"int32 a = 1; int32 b = 2; K k = 3; int32 c = 4;", "int64 a = 1; reserved 2; optional K k = 3;"}, // the last of many
	} {
		texts := func(in string) string { return "message K { } message M {" + in + "}" }
		of(t, texts(c.old), texts(c.now)).fails(t, api.ErrCompat)
		below := func(in string) string {
			return "message K { } message M { map<string, A> x = 7; } message A { B x = 7; } message B { repeated N x = 7; M m = 8; } message N {" + in + "}"
		}
		w := of(t, below(c.old), below(c.now))
		w.fails(t, api.ErrCompat)
		w.wrote, w.reads = "N", "K"
		w.fails(t, api.ErrCompat)
		w.wrote, w.reads = "K", "N"
		w.becomes(t, msg(), msg())
	}
}

func TestBreakElsewhere(t *testing.T) { // P1501: a break between types that do not meet is none
	w := of(t, "message M { int32 a = 1; } message N { int32 b = 1; M m = 2; }", "message M { int64 a = 1; } message N { string b = 1; M m = 2; }")
	w.becomes(t, one(1, num(-7)), one(1, num(-7)))
	w.wrote, w.reads = "N", "N"
	w.fails(t, api.ErrCompat)
	// What lies behind a number that is gone meets nothing.
	w = of(t, "message M { N n = 1; } message N { int32 b = 1; }", "message M { reserved 1; } message N { string b = 1; }")
	w.becomes(t, one(1, one(1, num(5))), msg(), "1")
}

func TestManyPairs(t *testing.T) { // P1501: as many pairs of types as may meet, and more
	w := between(t, ring("A", 63, ""), "A0", ring("B", 65, ""), "B0")
	w.becomes(t, chain(63, 1, msg()), chain(63, 1, msg()))
	between(t, ring("A", 64, ""), "A0", ring("B", 65, ""), "B0").fails(t, api.ErrBreaks)
	between(t, ring("A", 511, ""), "A7", ring("B", 512, ""), "B9").fails(t, api.ErrBreaks)
}

func TestAsCheckSays(t *testing.T) { // P1501: of made schemas, what compat.Check answers
	fine, broken := 0, 0
	for seed := range int64(500) {
		m := newMaker(seed)
		old := m.schema()
		for _, w := range ways(t, old.text("A"), m.next(old, pick(m, fair, wild)).text("B")) {
			b, e := compat.Check(w.from, w.wrote, w.to, w.reads)
			if e != api.OK {
				t.Fatal(e)
			}
			p, e := project.New(w.from, w.wrote, w.to, w.reads)
			if b.Rule == 0 && (e != api.OK || p == nil) || b.Rule != 0 && (e != api.ErrCompat || p != nil) {
				t.Fatalf("P1501: New is %v where Check tells %q", e, compat.Say(b))
			}
			if b.Rule == 0 {
				fine++
			} else {
				broken++
			}
		}
	}
	if fine < 500 || broken < 500 {
		t.Errorf("%d are fine, %d are broken: too few", fine, broken)
	}
}
