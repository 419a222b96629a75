package compat_test

import (
	"strings"
	"testing"

	"sigil/api"
)

func TestNames(t *testing.T) { // P1401: the names, each by itself and both at a time, wrote ahead of reads
	longest := strings.Repeat("n", api.MaxName-1) // no full name is longer
	text := "package p; message M { int32 a = 1; message N { } } enum E { Z = 0; }"
	s := load(t, text)
	q := load(t, "message "+longest+" { }")
	for _, c := range []struct {
		name string
		want api.Errno
	}{
		{"", api.ErrName}, {"M", api.ErrName}, {"p", api.ErrName}, {".p.M", api.ErrName}, {"p.M.", api.ErrName}, {"p.m", api.ErrName}, {"p.E", api.ErrName}, {"p.M.a", api.ErrName}, {"p.M\x00", api.ErrName}, {"\xff", api.ErrName},
		{strings.Repeat("x", api.MaxName-1), api.ErrName}, {strings.Repeat("x", api.MaxName), api.ErrName}, {longest + "n", api.ErrName},
		{strings.Repeat("x", api.MaxName+1), api.ErrLong}, {longest + "nn", api.ErrLong}, {strings.Repeat("x", 1<<20), api.ErrLong},
	} {
		for _, right := range []side{{s, "p.M"}, {s, "p.M.N"}, {q, longest}} {
			question{side{right.s, c.name}, right}.refuses(t, c.want)
			question{right, side{right.s, c.name}}.refuses(t, c.want)
			// Of two wrong names that of wrote is told, whatever reads is.
			for _, wrong := range []string{"", "x", strings.Repeat("y", api.MaxName), strings.Repeat("y", api.MaxName+1)} {
				question{side{right.s, c.name}, side{s, wrong}}.refuses(t, c.want)
			}
		}
	}
	question{side{s, "p.M.N"}, side{s, "p.M.N"}}.breaks(t)
	question{side{q, longest}, side{q, longest}}.breaks(t)
	question{side{q, longest}, side{q, longest}}.meets(t, longest+">"+longest+" ")
	question{side{s, "p.M"}, side{q, longest}}.breaks(t, "gone p.M>"+longest+" 1")
}

func TestNamesOfTheOther(t *testing.T) { // P1401: wrote is looked up in old, reads in now
	a, b := load(t, "message A { }"), load(t, "message B { }")
	question{side{a, "A"}, side{b, "B"}}.meets(t, "A>B ")
	question{side{a, "B"}, side{b, "B"}}.refuses(t, api.ErrName)
	question{side{a, "A"}, side{b, "A"}}.refuses(t, api.ErrName)
	question{side{a, "B"}, side{b, "A"}}.refuses(t, api.ErrName)
	none := load(t, "")
	question{side{none, "A"}, side{b, "B"}}.refuses(t, api.ErrName)
	question{side{a, "A"}, side{none, "B"}}.refuses(t, api.ErrName)
}

func TestNamesAheadOfPairs(t *testing.T) { // P1401: the names are looked at ahead of the pairs
	a, b := load(t, ring("A", 64, "")), load(t, ring("B", 65, ""))
	question{side{a, "A0"}, side{b, "B0"}}.refuses(t, api.ErrBreaks)
	question{side{a, "A64"}, side{b, "B0"}}.refuses(t, api.ErrName)
	question{side{a, "A0"}, side{b, "B65"}}.refuses(t, api.ErrName)
	question{side{a, "A0"}, side{b, strings.Repeat("B", api.MaxName+1)}}.refuses(t, api.ErrLong)
}
