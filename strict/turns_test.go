package strict_test

import (
	"fmt"
	"strings"
	"sync"
	"testing"

	"sigil/api"
	"sigil/bind"
	"sigil/strict"
)

func TestTwoSchemas(t *testing.T) { // P3: schemas with the same names, in turns, with faults between
	a := load(t, `syntax = "proto3"; message M { sint32 a = 1; M m = 2; }`)
	b := load(t, `syntax = "proto3"; message M { int32 a = 1; M m = 3; }`)
	c := load(t, `syntax = "proto3"; message M { string a = 1; repeated M m = 2; }`)
	d := load(t, `syntax = "proto3"; message M { optional bool a = 1; map<int32, M> m = 2; N n = 3; } message N { M m = 2; }`)
	for range 3 {
		reads(t, a, "M", row("08 02 12 02 08 04"), msg(at(1, num(1)), at(2, one(1, num(2)))))
		reads(t, b, "M", row("08 02 1a 02 08 04"), msg(at(1, num(2)), at(3, one(1, num(4)))))
		reads(t, c, "M", row("0a 01 78 12 00 12 00"), msg(at(1, text("x")), at(2, list(msg(), msg()))))
		reads(t, d, "M", row("08 01 12 06 08 00 12 02 08 00 1a 02 12 00"), msg(at(1, num(1)), at(2, dict(pair(num(0), one(1, num(0))))), at(3, one(2, msg()))))
		refuses(t, a, "M", row("1a 00"), 0, api.ErrStranger)
		refuses(t, b, "M", row("12 00"), 0, api.ErrStranger)
		refuses(t, c, "M", row("08 02"), 0, api.ErrWire)
		refuses(t, d, "M", row("12 00"), 2, api.ErrPair)
		refuses(t, a, "M", row("12 00 12 00"), 2, api.ErrOrder)
		refuses(t, d, "M", row("08 02"), 1, api.ErrForm)
		refuses(t, a, "M", row("08 00"), 1, api.ErrZero)
		answers(t, a, "N", nil, 0, api.ErrName)
		reads(t, d, "N", row("12 02 08 00"), one(2, one(1, num(0))))
	}
}

func TestTypesThatHoldOneAnother(t *testing.T) { // P1001: types that hold themselves and one another, in all ways, whichever of them is met first
	s := load(t, `syntax = "proto3"; package r;
		message A { A a = 1; B b = 2; int32 n = 3; }
		message B { repeated A a = 1; map<int32, C> c = 2; sint32 n = 3; }
		message C { oneof o { A a = 1; B b = 2; C c = 4; } fixed32 n = 3; optional D d = 5; message D { map<string, A> a = 1; repeated D d = 2; bool n = 3; } }`)
	n := func(v int) api.Entry { return at(3, num(v)) }
	for _, c := range []struct {
		name string
		b    string
		want api.Value
	}{
		{"r.A", "18 01", msg(n(1))}, {"r.A", "0a 02 18 02 18 01", msg(at(1, msg(n(2))), n(1))}, {"r.A", "12 02 18 02 18 01", msg(at(2, msg(n(1))), n(1))},
		{"r.A", "12 0a 0a 08 12 06 0a 02 18 05 0a 00", one(2, one(1, list(one(2, one(1, list(msg(n(5)), msg()))))))},
		{"r.A", "12 0c 12 0a 08 01 12 06 0a 04 12 02 18 01", one(2, one(2, dict(pair(num(1), one(1, one(2, msg(n(-1))))))))},
		{"r.B", "18 02", msg(n(1))}, {"r.B", "12 09 08 00 12 05 1d 01 00 00 00", one(2, dict(pair(num(0), msg(n(1)))))}, {"r.B", "0a 04 12 02 18 02", one(1, list(one(2, msg(n(1)))))},
		{"r.C", "1d 01 00 00 00", msg(n(1))}, {"r.C", "22 07 22 05 1d 01 00 00 00", one(4, one(4, msg(n(1))))}, {"r.C", "2a 02 18 01", one(5, msg(n(1)))}, {"r.C", "12 02 18 02", one(2, msg(n(1)))},
		{"r.C", "2a 09 0a 07 0a 01 6b 12 02 18 01", one(5, one(1, dict(kv("k", msg(n(1))))))},
		{"r.C.D", "18 01", msg(n(1))}, {"r.C.D", "12 04 12 02 18 01 12 02 18 01", one(2, list(one(2, list(msg(n(1)))), msg(n(1))))}, {"r.C.D", "0a 08 0a 00 12 04 12 02 18 02", one(1, dict(kv("", one(2, msg(n(1))))))},
	} {
		reads(t, s, c.name, row(c.b), c.want)
	}
	// The number 3 is of another type in each.
	refuses(t, s, "r.A", row("12 05 1d 01 00 00 00"), 2, api.ErrWire)
	refuses(t, s, "r.C", row("2a 02 18 02"), 3, api.ErrForm)
	refuses(t, s, "r.C", row("0a 0b 18 fe ff ff ff ff ff ff ff ff 02"), 3, api.ErrOver)
	refuses(t, s, "r.B", row("12 06 08 00 12 02 18 02"), 6, api.ErrWire)
}

// ring is a schema of as many types as there may be, each of which holds the next one.
func ring(t *testing.T) *bind.Schema {
	var b strings.Builder
	for i := range api.MaxTypes {
		fmt.Fprintf(&b, "message T%d { int32 a = 1; T%d t = %d; } ", i, (i+1)%api.MaxTypes, i+2)
	}
	return load(t, `syntax = "proto3"; `+b.String())
}

func TestManyTypes(t *testing.T) { // P1001: as many types as there may be, 64 of them in one row
	s := ring(t)
	for i := range api.MaxTypes {
		v, b := one(1, num(1)), row("08 01")
		for k := i + 62; k >= i; k-- {
			number := k%api.MaxTypes + 2
			v, b = msg(at(1, num(1)), at(number, v)), rows(row("08 01"), record(number, b))
		}
		name := fmt.Sprint("T", i)
		reads(t, s, name, b, v)
		refuses(t, s, fmt.Sprint("T", (i+1)%api.MaxTypes), b, 2, api.ErrStranger)
	}
}

func TestManyFields(t *testing.T) { // P1002: a message of as many fields as there may be, all there
	var b strings.Builder
	v, want := msg(), []byte(nil)
	for i := range api.MaxFields {
		fmt.Fprintf(&b, "int32 f%d = %d; ", api.MaxFields-i, api.MaxFields-i)
		v.Fields = append(v.Fields, at(i+1, num(i+1)))
		want = rows(want, tag(i+1, 0), varint(i+1))
	}
	reads(t, load(t, `syntax = "proto3"; message M { `+b.String()+`}`), "M", want, v)
}

func TestAskedTwice(t *testing.T) { // P3: the same again, whatever was asked between
	s := wideSchema()
	var before []string
	for round := range 3 {
		i := 0
		for seed := range int64(150) {
			for _, name := range s.Messages() {
				for _, b := range bytesOf(seed, name) {
					v, p, e := strict.Decode(s, name, b)
					got := fmt.Sprint(plain(v), p, e)
					if round == 0 {
						before = append(before, got)
					} else if got != before[i] {
						t.Fatalf("P3: of %q, % x: %s, before it was %s", name, b, got, before[i])
					}
					i++
				}
			}
		}
	}
}

func TestBeside(t *testing.T) { // P3: several at the same time, of one schema, with faults between
	s := wideSchema()
	var wait sync.WaitGroup
	for k := range 8 {
		wait.Go(func() {
			for seed := range int64(60) {
				for _, name := range s.Messages() {
					for _, b := range bytesOf(seed+int64(k), name) {
						want, bad := secondly(s, name, b)
						v, p, e := strict.Decode(s, name, b)
						q, f := strict.Check(s, name, b)
						if !same(v, want) || p != bad.at || q != bad.at || e != bad.err || f != bad.err {
							t.Errorf("P3: %q, % x: %s, %d, %v", name, b, short(v), p, e)
						}
					}
				}
			}
		})
	}
	wait.Wait()
}
