package loose_test

import (
	"fmt"
	"strings"
	"sync"
	"testing"

	"sigil/api"
	"sigil/loose"
)

func TestTwoSchemas(t *testing.T) { // P3: schemas with the same names, in turns, with faults between
	a := load(t, `syntax = "proto3"; message M { sint32 a = 1; M m = 2; }`)
	b := load(t, `syntax = "proto3"; message M { int32 a = 1; M m = 3; }`)
	c := load(t, `syntax = "proto3"; message M { string a = 1; repeated M m = 2; }`)
	d := load(t, `syntax = "proto3"; message M { optional bool a = 1; map<int32, M> m = 2; N n = 3; } message N { M m = 2; }`)
	bytes := row("08 02 12 02 08 04")
	x, y := one(2, one(1, num(1))), one(2, list(msg()))
	for range 3 {
		reads(t, a, "M", bytes, msg(at(1, num(1)), at(2, one(1, num(2)))))
		reads(t, b, "M", bytes, one(1, num(2)), skip(2, 2, 2))
		reads(t, c, "M", bytes, one(2, list(msg())), skip(0, 1, 0), skip(4, 1, 0, 2))
		reads(t, d, "M", bytes, msg(at(1, num(1)), at(2, dict(pair(num(4), msg())))))
		refuses(t, a, "M", row("12 01 08"), 3, api.ErrEnds)
		reads(t, b, "M", row("12 01 08"), msg(), skip(0, 2, 2))
		refuses(t, c, "M", row("0a 01 ff"), 2, api.ErrUtf8)
		reads(t, a, "M", row("0a 01 ff"), msg(), skip(0, 1, 2))
		refuses(t, a, "N", nil, 0, api.ErrName)
		reads(t, d, "N", row("12 02 08 00"), one(2, one(1, num(0))))
		merges(t, a, "M", x, x, x)
		merges(t, c, "M", y, y, one(2, list(msg(), msg())))
		parts(t, a, "M", y, y, api.ErrType, 2)
		parts(t, c, "M", x, x, api.ErrType, 2)
		parts(t, b, "M", x, x, api.ErrType, 2)
	}
}

func TestTypesThatHoldOneAnother(t *testing.T) { // P1101: types that hold themselves and one another, in all ways, whichever of them is met first
	s := load(t, `syntax = "proto3"; package r;
		message A { A a = 1; B b = 2; int32 n = 3; }
		message B { repeated A a = 1; map<int32, C> c = 2; sint32 n = 3; }
		message C { oneof o { A a = 1; B b = 2; C c = 4; } fixed32 n = 3; optional D d = 5; message D { map<string, A> a = 1; repeated D d = 2; bool n = 3; } }`)
	n := func(v int) api.Entry { return at(3, num(v)) }
	for _, c := range []struct {
		name  string
		b     string
		want  api.Value
		skips []api.Skip
	}{
		{"r.A", "18 01", msg(n(1)), nil}, {"r.A", "18 01 0a 02 18 02", msg(at(1, msg(n(2))), n(1)), nil}, {"r.A", "12 02 18 02 18 01", msg(at(2, msg(n(1))), n(1)), nil},
		{"r.A", "12 0a 0a 08 12 06 0a 02 18 05 0a 00", one(2, one(1, list(one(2, one(1, list(msg(n(5)), msg())))))), nil},
		{"r.A", "12 0c 12 0a 08 01 12 06 0a 04 12 02 18 01", one(2, one(2, dict(pair(num(1), one(1, one(2, msg(n(-1)))))))), nil},
		{"r.A", "12 02 18 02 12 02 18 04", one(2, msg(n(2))), nil}, {"r.A", "12 04 0a 02 18 01 12 04 0a 02 18 02", one(2, one(1, list(msg(n(1)), msg(n(2))))), nil},
		{"r.B", "18 02", msg(n(1)), nil}, {"r.B", "12 05 12 05 1d 01 00 00", api.Value{}, nil}, {"r.B", "12 07 12 05 1d 01 00 00 00", one(2, dict(pair(num(0), msg(n(1))))), nil}, {"r.B", "12 04 12 02 18 01", one(2, dict(pair(num(0), msg()))), []api.Skip{skip(4, 3, 0, 2, 2)}},
		{"r.C", "1d 01 00 00 00", msg(n(1)), nil}, {"r.C", "22 07 22 05 1d 01 00 00 00", one(4, one(4, msg(n(1)))), nil}, {"r.C", "0a 02 18 01 12 02 18 01", one(2, msg(n(-1))), nil}, {"r.C", "2a 02 18 07", one(5, msg(n(1))), nil},
		{"r.C", "2a 09 0a 07 0a 01 6b 12 02 18 01", one(5, one(1, dict(kv("k", msg(n(1)))))), nil},
		{"r.C.D", "18 80 02", msg(n(1)), nil}, {"r.C.D", "12 04 12 02 18 01 12 02 18 00", one(2, list(one(2, list(msg(n(1)))), msg())), nil},
	} {
		if c.want.Kind == 0 {
			refuses(t, s, c.name, row(c.b), 3, api.ErrEnds)
			continue
		}
		reads(t, s, c.name, row(c.b), c.want, c.skips...)
	}
}

func TestManyTypes(t *testing.T) { // P1101: as many types as there may be, each of which holds the next one, 64 of them in one row
	var text strings.Builder
	for i := range api.MaxTypes {
		fmt.Fprintf(&text, "message T%d { int32 a = 1; T%d t = %d; } ", i, (i+1)%api.MaxTypes, i+2)
	}
	s := load(t, `syntax = "proto3"; `+text.String())
	for i := range api.MaxTypes {
		v, b := one(1, num(1)), row("08 01")
		for k := i + 62; k >= i; k-- {
			number := k%api.MaxTypes + 2
			v, b = msg(at(1, num(1)), at(number, v)), rows(record(number, b), row("08 01"))
		}
		reads(t, s, fmt.Sprint("T", i), b, v)
		merges(t, s, fmt.Sprint("T", i), v, v, v)
		reads(t, s, fmt.Sprint("T", (i+1)%api.MaxTypes), b, one(1, num(1)), skip(0, i+2, 2))
	}
}

func TestManyFields(t *testing.T) { // P1101: a message of as many fields as there may be, all there, falling
	var text strings.Builder
	v, b := msg(), []byte(nil)
	for i := range api.MaxFields {
		fmt.Fprintf(&text, "int32 f%d = %d; ", i+1, i+1)
		v.Fields = append(v.Fields, at(i+1, num(i+1)))
		b = rows(tag(i+1, 0), varint(i+1), b)
	}
	s := load(t, `syntax = "proto3"; message M { `+text.String()+`}`)
	reads(t, s, "M", b, v)
	merges(t, s, "M", msg(v.Fields[:300]...), msg(v.Fields[200:]...), v)
	merges(t, s, "M", msg(v.Fields[200:]...), msg(v.Fields[:300]...), v)
}

// told tells all of what is answered.
func told(a answer) string {
	return fmt.Sprint(a.tree, a.at, a.err, a.bytes, a.bytesAt, a.bytesErr, a.skips, a.skippedAt, a.skippedErr)
}

func TestAskedTwice(t *testing.T) { // P3: the same again, whatever was asked between
	s := wideSchema()
	var before []string
	for round := range 3 {
		i := 0
		for seed := range int64(100) {
			for _, name := range s.Messages() {
				m := newMaker(seed)
				merged, trail, e := loose.Merge(s, name, m.normal(name), m.normal(name))
				l := []string{fmt.Sprint(merged, trail, e)}
				for _, b := range bytesOf(seed, name) {
					l = append(l, told(ask(s, name, b)))
				}
				for _, got := range l {
					if round == 0 {
						before = append(before, got)
					} else if got != before[i] {
						t.Fatalf("P3: of %q: %s, before it was %s", name, got, before[i])
					}
					i++
				}
			}
		}
	}
}

func TestBeside(t *testing.T) { // P3: several at the same time, of one schema, with faults between
	s := wideSchema()
	var wait sync.WaitGroup
	for k := range 8 {
		wait.Go(func() {
			for seed := range int64(40) {
				for _, name := range s.Messages() {
					for _, b := range bytesOf(seed+int64(k), name) {
						want := secondly(s, name, b)
						a := ask(s, name, b)
						if !same(a.tree, want.tree) || a.at != want.bad.at || a.err != want.bad.err || !sameSkips(a.skips, want.skips) {
							t.Errorf("P3: %q, % x: %s, %d, %v", name, b, short(a.tree), a.at, a.err)
						}
					}
					m := newMaker(seed)
					x, y := m.normal(name), m.normal(name)
					if v, _, e := loose.Merge(s, name, x, y); e != api.OK || !same(v, secondMerge(s, name, x, y)) {
						t.Errorf("P3: Merge(%s, %s) = %s, %v", short(x), short(y), short(v), e)
					}
				}
			}
		})
	}
	wait.Wait()
}
