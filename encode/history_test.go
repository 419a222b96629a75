package encode_test

import (
	"bytes"
	"fmt"
	"slices"
	"strings"
	"sync"
	"testing"

	"sigil/api"
	"sigil/bind"
	"sigil/encode"
)

// ask makes one of the four calls, and tells all that it answers.
func ask(e *encode.Encoder, call int, name string, v api.Value, number int) string {
	switch call {
	case 0:
		b, x := e.Encode(name, v)
		return fmt.Sprintf("Encode % x %v", b, x)
	case 1:
		n, x := e.Size(name, v)
		return fmt.Sprint("Size ", n, x)
	case 2:
		b, x := e.Field(name, v, number)
		return fmt.Sprintf("Field % x %v", b, x)
	}
	l, x := e.Spans(name, v)
	return fmt.Sprint("Spans ", l, x)
}

func TestAskedBefore(t *testing.T) { // P902: one Encoder that is asked of several types in turns, of right trees and wrong ones, answers what a new one does
	s := wideSchema()
	names := []string{"w.W", "w.V", "w.U", "w.N", "w.E", ""}
	for seed := range int64(60) {
		m := newMaker(seed)
		old := encode.New(s)
		for range 60 {
			name := names[m.Intn(len(names))]
			of := name
			if m.Intn(8) == 0 || !slices.Contains(s.Messages(), name) {
				of = names[m.Intn(3)] // perhaps a tree of another type
			}
			v := m.normal(of)
			if m.Intn(3) == 0 {
				v = m.broken(v)
			}
			number := []int{1, 2, 3, 4, 5, 18, repeated + m.Intn(18), ofV, listV, mapV}[m.Intn(10)]
			call := m.Intn(4)
			got, want := ask(old, call, name, v, number), ask(encode.New(s), call, name, v, number)
			if got != want {
				t.Fatalf("P902: of %q, %s: %s, a new Encoder answers %s", name, short(v), got, want)
			}
		}
	}
}

func TestAskedTwice(t *testing.T) { // P902, P3: the same again, whatever was asked between
	s := wideSchema()
	e := encode.New(s)
	var before []string
	for round := range 3 {
		i := 0
		for seed := range int64(100) {
			for _, name := range s.Messages() {
				for _, v := range made(seed, name) {
					for call := range 4 {
						got := ask(e, call, name, v, 2)
						if round == 0 {
							before = append(before, got)
						} else if got != before[i] {
							t.Fatalf("P902: of %q, %s: %s, before it was %s", name, short(v), got, before[i])
						}
						i++
					}
				}
			}
		}
	}
}

func TestTypesThatHoldOneAnother(t *testing.T) { // P902: types that hold themselves and one another, in all ways, whichever of them is met first
	s := load(t, `syntax = "proto3"; package r;
		message A { A a = 1; B b = 2; int32 n = 3; }
		message B { repeated A a = 1; map<int32, C> c = 2; sint32 n = 3; }
		message C { oneof o { A a = 1; B b = 2; C c = 4; } fixed32 n = 3; optional D d = 5; message D { map<string, A> a = 1; repeated D d = 2; bool n = 3; } }`)
	n := func(v int) api.Entry { return at(3, num(v)) }
	trees := map[string][]struct {
		v    api.Value
		want string
	}{
		"r.A": {
			{msg(n(1)), "18 01"}, {msg(at(1, msg(n(2))), n(1)), "0a 02 18 02 18 01"}, {msg(at(2, msg(n(1))), n(1)), "12 02 18 02 18 01"},
			{one(2, one(1, list(one(2, one(1, list(msg(n(5)), msg())))))), "12 0a 0a 08 12 06 0a 02 18 05 0a 00"},
			{one(2, one(2, dict(pair(num(1), one(1, one(2, msg(n(-1)))))))), "12 0c 12 0a 08 01 12 06 0a 04 12 02 18 01"},
		},
		"r.B": {
			{msg(n(1)), "18 02"}, {one(2, dict(pair(num(0), msg(n(1))))), "12 09 08 00 12 05 1d 01 00 00 00"}, {one(1, list(one(2, msg(n(1))))), "0a 04 12 02 18 02"},
		},
		"r.C": {
			{msg(n(1)), "1d 01 00 00 00"}, {one(4, one(4, msg(n(1)))), "22 07 22 05 1d 01 00 00 00"}, {one(5, msg(n(1))), "2a 02 18 01"}, {one(2, msg(n(1))), "12 02 18 02"},
			{one(5, one(1, dict(kv("k", msg(n(1)))))), "2a 09 0a 07 0a 01 6b 12 02 18 01"},
		},
		"r.C.D": {
			{msg(n(1)), "18 01"}, {one(2, list(one(2, list(msg(n(1)))), msg(n(1)))), "12 04 12 02 18 01 12 02 18 01"}, {one(1, dict(kv("", one(2, msg(n(1)))))), "0a 08 0a 00 12 04 12 02 18 02"},
		},
	}
	names := s.Messages()
	for turn := range names { // each of them first
		e := encode.New(s)
		for i := range names {
			name := names[(i+turn)%len(names)]
			for _, c := range trees[name] {
				written(t, s, e, name, c.v, row(c.want))
				fresh(t, s, name, c.v, row(c.want))
			}
		}
	}
}

func TestRefusedBetween(t *testing.T) { // P902, P4: what was refused, of types that were met or not, leaves nothing behind
	s := load(t, small)
	right := msg(at(1, num(5)), at(4, dict(kv("k", one(7, msg())))))
	want := row("08 05 22 07 0a 01 6b 12 02 3a 00")
	wrong := []api.Value{num(0), one(9, num(0)), one(1, num(0)), chain(64, 7, msg()), chain(200, 7, msg()), one(2, text(strings.Repeat("x", 1<<20)))}
	e := encode.New(s)
	for range 2 {
		for _, v := range wrong {
			for call := range 4 {
				for _, name := range []string{"p.M", "p.N", strings.Repeat("p", 256)} {
					ask(e, call, name, v, 1)
					ask(e, call, name, v, 8)
				}
			}
			written(t, s, e, "p.M", right, want)
		}
	}
}

func TestTwoSchemas(t *testing.T) { // P902: Encoders of schemas with the same names do not meet
	one1 := load(t, `syntax = "proto3"; message M { sint32 a = 1; M m = 2; }`)
	two := load(t, `syntax = "proto3"; message M { int32 a = 1; M m = 3; }`)
	three := load(t, `syntax = "proto3"; message M { string a = 1; repeated M m = 2; }`)
	e, f, g := encode.New(one1), encode.New(two), encode.New(three)
	for range 2 {
		written(t, one1, e, "M", msg(at(1, num(1)), at(2, one(1, num(2)))), row("08 02 12 02 08 04"))
		written(t, two, f, "M", msg(at(1, num(1)), at(3, one(1, num(2)))), row("08 01 1a 02 08 02"))
		written(t, three, g, "M", msg(at(1, text("x")), at(2, list(msg(), msg()))), row("0a 01 78 12 00 12 00"))
		refused(t, e, "M", one(3, msg()), 3, api.ErrType, api.ErrField)
		refused(t, f, "M", one(2, msg()), 2, api.ErrType, api.ErrField)
		refused(t, g, "M", one(1, num(1)), 1, api.ErrType, api.ErrType)
	}
}

// ring is a schema of as many types as there may be, each of which holds the next one.
func ring(t *testing.T) *bind.Schema {
	var b strings.Builder
	for i := range api.MaxTypes {
		fmt.Fprintf(&b, "message T%d { int32 a = 1; T%d t = %d; } ", i, (i+1)%api.MaxTypes, i+2)
	}
	return load(t, `syntax = "proto3"; `+b.String())
}

func TestManyTypes(t *testing.T) { // P902: as many types as there may be, met in one tree and one after the other
	s := ring(t)
	e := encode.New(s)
	for i := range api.MaxTypes {
		v, want := one(1, num(1)), row("08 01")
		for k := i + 62; k >= i; k-- {
			number := k%api.MaxTypes + 2
			v, want = msg(at(1, num(1)), at(number, v)), slices.Concat(row("08 01"), record(number, want))
		}
		name := fmt.Sprint("T", i)
		if i%16 == 0 {
			fresh(t, s, name, v, want)
		}
		written(t, s, e, name, v, want)
		// One field for another: the number is that of the type next to it.
		refused(t, e, name, one((i+1)%api.MaxTypes+2, msg()), 1, api.ErrType, api.ErrType)
	}
}

func TestBeside(t *testing.T) { // P3: one Encoder, asked by several at the same time, of types that it has not met
	s := ring(t)
	var trees []api.Value
	var want [][]byte
	for i := range api.MaxTypes {
		next := (i + 1) % api.MaxTypes
		trees = append(trees, msg(at(1, num(-1)), at(i+2, one(next+2, one(1, num(1))))))
		want = append(want, slices.Concat(row("08 ff ff ff ff ff ff ff ff ff 01"), record(i+2, record(next+2, row("08 01")))))
	}
	for range 5 {
		e := encode.New(s)
		var wait sync.WaitGroup
		for k := range 8 {
			wait.Go(func() {
				for i := range trees {
					i = (i + 64*k) % len(trees)
					if b, x := e.Encode(fmt.Sprint("T", i), trees[i]); x != api.OK || !bytes.Equal(b, want[i]) {
						t.Errorf("P3: T%d: %s, %v, want %s", i, some(b), x, some(want[i]))
					}
				}
			})
		}
		wait.Wait()
	}
}
