package project_test

import (
	"fmt"
	"strings"
	"testing"

	"sigil/api"
	"sigil/compat"
	"sigil/project"
)

func TestWhole(t *testing.T) { // P1504: the first pair alone: each change of one field
	inner := " enum E { Z = 0; } message N { }"
	for _, c := range []struct {
		old, now string
		want     bool
	}{
		{"", "", true}, {"", "int32 a = 1; repeated N n = 2;", true}, {"int32 a = 1;", "int32 a = 1;", true}, {"optional int32 a = 1;", "optional int32 a = 1;", true},
		{"int32 a = 1;", "reserved 1;", false}, {"N a = 1;", "reserved 1;", false}, {"repeated int32 a = 1;", "reserved 1;", false}, {"map<int32, N> a = 1;", "reserved 1;", false}, {"oneof o { int32 a = 1; }", "reserved 1;", false}, {"int32 a = 1; int32 b = 2;", "reserved 2; int32 a = 1;", false}, {"int32 a = 536870911;", "reserved 10 to max;", false},
		{"reserved 1;", "", true}, {"reserved 1;", "reserved 1;", true}, {"reserved 1;", "optional int32 a = 1;", true},
		// Scalars and enums that are explicit, and become implicit.
		{"optional int32 a = 1;", "int32 a = 1;", false}, {"optional int32 a = 1;", "int64 a = 1;", false}, {"optional bool a = 1;", "uint64 a = 1;", false}, {"optional string a = 1;", "bytes a = 1;", false}, {"optional E a = 1;", "E a = 1;", false}, {"optional E a = 1;", "int32 a = 1;", false}, {"optional int32 a = 1;", "E a = 1;", false}, {"optional double a = 1;", "double a = 1;", false},
		{"oneof o { int32 a = 1; }", "int32 a = 1;", false}, {"oneof o { E a = 1; N b = 2; }", "E a = 1; N b = 2;", false}, {"oneof o { string a = 1; N b = 2; }", "bytes a = 1; N b = 2;", false},
		// What stays explicit, or comes into a list.
		{"optional int32 a = 1;", "oneof o { int32 a = 1; }", true}, {"oneof o { int32 a = 1; }", "optional int32 a = 1;", true}, {"oneof o { int32 a = 1; N b = 2; }", "oneof p { N b = 2; int32 a = 1; }", true}, {"optional int32 a = 1;", "repeated int32 a = 1;", true}, {"oneof o { E a = 1; }", "repeated int64 a = 1;", true},
		// Implicit ones, whatever they become.
		{"int32 a = 1;", "optional int32 a = 1;", true}, {"int32 a = 1;", "oneof o { int64 a = 1; }", true}, {"int32 a = 1;", "repeated int32 a = 1;", true}, {"bool a = 1;", "uint64 a = 1;", true}, {"E a = 1;", "int32 a = 1;", true},
		// Lists and maps.
		{"repeated int32 a = 1;", "repeated int64 a = 1;", true}, {"map<bool, string> a = 1;", "map<int32, bytes> a = 1;", true},
		// A single message is explicit, as an optional one and a member of a oneof are.
		{"optional N a = 1;", "N a = 1;", true}, {"N a = 1;", "optional N a = 1;", true}, {"oneof o { N a = 1; }", "N a = 1;", true}, {"oneof o { N a = 1; N b = 2; }", "N a = 1; N b = 2;", true}, {"optional N a = 1;", "repeated N a = 1;", true}, {"N a = 1;", "oneof o { N a = 1; }", true},
	} {
		// By itself; as a field's, a list's and a map's message; far below; in a type that does not meet.
		text := func(in string) string {
			return "message M { " + in + " }" + inner + " message A { M a = 1; } message B { repeated M b = 1; A a = 2; } message C { map<int32, B> c = 1; optional C d = 2; } message D { oneof o { C c = 1; D d = 2; } N n = 3; }"
		}
		old, now := load(t, text(c.old)), load(t, text(c.now))
		for _, name := range []string{"M", "A", "B", "C", "D"} {
			if p := (way{old, name, now, name}).plan(t); p.Whole() != c.want || p.Whole() != c.want {
				t.Errorf("P1504: %q to %q, at %s: Whole is %v", c.old, c.now, name, !c.want)
			}
		}
		if !(way{old, "N", now, "N"}).plan(t).Whole() || !(way{old, "N", now, "M"}).plan(t).Whole() {
			t.Errorf("P1504: %q to %q: not Whole, but the types do not meet", c.old, c.now)
		}
		for _, s := range []way{{old, "D", old, "D"}, {now, "D", now, "D"}} {
			if !s.plan(t).Whole() {
				t.Errorf("P1506: %q or %q with itself is not Whole", c.old, c.now)
			}
		}
	}
}

func TestWholeFar(t *testing.T) { // P1504: what is lost in the last of many pairs, and in a pair that is met by one way of many
	w := between(t, ring("A", 63, ""), "A0", ring("B", 64, ""), "B0")
	if !w.plan(t).Whole() {
		t.Error("P1504: two rings are not Whole")
	}
	// A0 meets each of the other ring, and there B1 last but a few.
	w = between(t, ring("A", 63, "optional int32 x = 2;"), "A0", strings.Replace(ring("B", 64, ""), "message B1 {", "message B1 { int32 x = 2;", 1), "B0")
	w.fails(t, api.ErrCompat)
	fields := func(letter, rest, special string) string {
		var b strings.Builder
		for i := range 64 {
			more := rest
			if i == 1 {
				more = special
			}
			fmt.Fprintf(&b, "message %[1]s%[2]d { %[1]s%[3]d m = 1; %[4]s } ", letter, i, (i+1)%64, more)
		}
		return b.String()
	}
	old := ring("A", 63, "optional int32 x = 2;")
	if w := between(t, old, "A0", fields("B", "optional int32 x = 2;", "optional int32 x = 2;"), "B0"); !w.plan(t).Whole() {
		t.Error("P1504: not Whole, but nothing is lost")
	}
	for _, special := range []string{"int32 x = 2;", "reserved 2;"} {
		w := between(t, old, "A0", fields("B", "optional int32 x = 2;", special), "B0")
		if w.plan(t).Whole() {
			t.Errorf("P1504: Whole, but %s is lost far below", special)
		}
		// No tree is so deep that it comes there.
		v := chain(63, 1, one(2, num(0)))
		w.becomes(t, v, v)
	}
	// By one way of many.
	w = of(t, "message M { N a = 1; N b = 2; N c = 3; } message N { optional int32 x = 1; }", "message M { N a = 1; N b = 2; O c = 3; } message N { optional int32 x = 1; } message O { int64 x = 1; }")
	if w.plan(t).Whole() {
		t.Error("P1504: Whole, but the third field loses a zero")
	}
	// A pair that would lose, behind a field that is gone: the field is lost.
	if of(t, "message M { N a = 1; } message N { int32 x = 1; }", "message M { reserved 1; } message N { int32 x = 1; }").plan(t).Whole() {
		t.Error("P1504: Whole, but a field is gone")
	}
}

// losing is a tree in which a message of a pair that is met by a path holds a field with a value, with the trail of it.
func losing(w way, path []int, f api.Field) (api.Value, string) {
	name := w.wrote
	var along []api.Field
	for _, n := range path {
		step, _ := w.from.Field(name, n)
		along = append(along, step)
		name = step.Of
	}
	v := zero(f)
	if f.Card == api.CSingle && f.Oneof == 0 && f.Type != api.TMessage {
		v = samples(f.Type)[1]
	}
	v = one(f.Number, v)
	trail := fmt.Sprint(f.Number)
	for i := len(along) - 1; i >= 0; i-- {
		step := along[i]
		switch step.Card {
		case api.CRepeated:
			v, trail = list(v), "0."+trail
		case api.CMap:
			v, trail = dict(pair(samples(step.Key)[0], v)), "0.2."+trail
		}
		v, trail = one(step.Number, v), fmt.Sprint(step.Number, ".", trail)
	}
	return v, trail
}

// zero is a value of a field: a zero, or what holds one.
func zero(f api.Field) api.Value {
	v := samples(f.Type)[0]
	switch f.Card {
	case api.CRepeated:
		return list(v)
	case api.CMap:
		return dict(pair(samples(f.Key)[0], v))
	}
	return v
}

func TestWholeAsPairsSay(t *testing.T) { // P1504: of made schemas: Whole just if there is a tree of which something is lost, made by the path of each pair and each field of it
	whole, not, far := 0, 0, 0
	for seed := range int64(1000) {
		m := newMaker(seed)
		old := m.schema()
		now := m.next(old, pick(m, fair, frugal, frugal, change{gone: 40}, change{implicit: 8}))
		for _, w := range ways(t, old.text("A"), now.text("B")) {
			p, e := project.New(w.from, w.wrote, w.to, w.reads)
			if e != api.OK {
				continue
			}
			pairs, _ := compat.Pairs(w.from, w.wrote, w.to, w.reads)
			want := true
			for _, q := range pairs {
				info, _ := w.from.Message(q.Old)
				for _, f := range info.Fields {
					v, trail := losing(w, q.Path, f)
					_, lost := w.judged(t, p, v)
					if len(lost) > 0 {
						if lost[0] != trail || len(lost) > 1 {
							t.Fatalf("P1503: Lost(%s) = %q, want %q", short(v), lost, trail)
						}
						if want && len(q.Path) > 0 {
							far++
						}
						want = false
					}
				}
			}
			if p.Whole() != want {
				t.Fatalf("P1504: Whole is %v: %s, %s, at %s, %s", p.Whole(), old.text("A"), now.text("B"), w.wrote, w.reads)
			}
			if want && len(pairs) > 1 {
				whole++
			} else if !want {
				not++
			}
		}
	}
	if whole < 300 || not < 300 || far < 100 {
		t.Errorf("%d of more than one pair are Whole, %d are not, %d of these below alone: too few", whole, not, far)
	}
}
