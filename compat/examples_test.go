package compat_test

import (
	"testing"

	"sigil/api"
	"sigil/compat"
)

func TestExamples(t *testing.T) { // the chapter's examples 1 to 5 and 7
	first := "message M { int32 a = 1; string b = 2; M m = 3; }"
	both := "message M { int32 a = 1; int32 b = 2; }"
	one := "message M { oneof o { int32 a = 1; int32 b = 2; } }"
	keyed := "message M { map<int32, string> m = 1; }"
	enum := "message M { E a = 1; } enum E { Z = 0; A = 1; }"
	for _, c := range []struct {
		old, now string
		want     []string
	}{
		{first, "message M { int64 a = 1; bytes b = 2; repeated M m = 3; }", nil},
		{first, "message M { uint32 a = 1; string b = 2; M m = 3; }", []string{"type M>M 1"}},
		{first, "message M { string b = 2; M m = 3; }", []string{"gone M>M 1"}},
		{first, "message M { reserved 1; string b = 2; M m = 3; }", nil},
		{first, "message M { int32 a = 1; string b = 2; string m = 3; }", []string{"message M>M 3"}},
		{first, "message M { optional int32 a = 1; string b = 2; M m = 3; }", nil},
		{first, "message M { map<int32, int32> a = 1; string b = 2; M m = 3; }", []string{"card M>M 1"}},
		{"message M { N n = 1; } message N { sint32 x = 7; }", "message M { N n = 1; } message N { int32 x = 7; }", []string{"type N>N 1.7"}},
		{both, one, []string{"oneof M>M 1"}}, {one, both, nil},
		{"message M { oneof o { int32 a = 1; } int32 b = 2; }", one, []string{"oneof M>M 1"}},
		{keyed, "message M { map<int64, bytes> m = 1; }", nil},
		{keyed, "message M { map<sint32, string> m = 1; }", []string{"key M>M 1"}},
		{keyed, "message M { map<string, string> m = 1; }", []string{"key M>M 1"}},
		{"message M { map<string, int32> m = 1; }", "message M { map<string, M> m = 1; }", []string{"message M>M 1"}},
		{"message M { repeated int32 a = 1; }", "message M { int32 a = 1; }", []string{"card M>M 1"}},
		{"message M { bool a = 1; }", "message M { uint64 a = 1; }", nil},
		{"message M { bool a = 1; }", "message M { sint32 a = 1; }", []string{"type M>M 1"}},
		{enum, "message M { F a = 1; } enum F { Y = 0; B = 7; }", nil},
	} {
		of(t, c.old, c.now).breaks(t, c.want...)
	}
	b, _ := of(t, "message M { N n = 1; } message N { sint32 x = 7; }", "message M { N n = 1; } message N { int32 x = 7; }").check()
	if said := compat.Say(b); said != "N -> N at 1.7: another type" {
		t.Errorf("P1410: Say(%+v) = %q", b, said)
	}
}

func TestExamplesOfPairs(t *testing.T) { // the chapter's examples 6 and 8
	two := "message M { N n = 1; } message N { sint32 x = 7; }"
	of(t, two, "message M { N n = 1; } message N { int32 x = 7; }").meets(t, "M>M ", "N>N 1")
	of(t, "message M { M m = 1; }", "message M { M m = 1; }").meets(t, "M>M ")

	q := between(t, ring("A", 63, ""), "A0", ring("B", 64, ""), "B0")
	q.breaks(t)
	if l, e := q.pairs(); e != api.OK || len(l) != 4032 {
		t.Errorf("P1403: %d pairs, %v, want 4032", len(l), e)
	}
	between(t, ring("A", 64, ""), "A0", ring("B", 65, ""), "B0").refuses(t, api.ErrBreaks)
	between(t, ring("A", 64, "int32 x = 2;"), "A0", ring("B", 65, ""), "B0").refuses(t, api.ErrBreaks)
}

func TestExamplesOfTheWhole(t *testing.T) { // the document's examples 8 and 9
	const small = `package p; message M { int32 a = 1; string b = 2; repeated sint32 c = 3; map<string, M> d = 4; optional bool e = 5; oneof o { fixed32 f = 6; M g = 7; } }`
	between(t, small, "p.M", `package p; message M { int64 a = 1; bytes b = 2; repeated sint32 c = 3; map<string, M> d = 4; reserved 5; oneof o { fixed32 f = 6; M g = 7; } }`, "p.M").breaks(t)
	between(t, small, "p.M", `package p; message M { int32 a = 1; string b = 2; repeated int32 c = 3; map<string, M> d = 4; optional bool e = 5; oneof o { fixed32 f = 6; M g = 7; } }`, "p.M").breaks(t, "type p.M>p.M 3")
}
