package strict_test

import (
	"bytes"
	"fmt"
	"slices"
	"strings"
	"testing"

	"sigil/api"
	"sigil/encode"
	"sigil/strict"
	"sigil/tree"
	"sigil/wire"
)

// plain tells all of a tree, unlike ones unlike.
func plain(v api.Value) string {
	var b strings.Builder
	fmt.Fprintf(&b, "%d %d %q [", v.Kind, v.Num, v.Text)
	for _, in := range v.List {
		b.WriteString(plain(in) + ",")
	}
	b.WriteString("] {")
	for _, in := range v.Fields {
		fmt.Fprint(&b, in.Number, ":", plain(in.Value), ",")
	}
	return b.String() + "}"
}

func TestAllSmallTrees(t *testing.T) { // P1007: many small trees, all of them: there and back
	s := smallSchema()
	e := encode.New(s)
	choices := [][]api.Value{ // of each field what it may hold
		{num(1), num(-1), num(128)},
		{text("a"), text("\x08\x01"), text("ab")},
		{list(num(0)), list(num(1)), list(num(0), num(0)), list(num(-1), num(0)), list(num(64))},
		{dict(kv("", msg())), dict(kv("", one(1, num(1)))), dict(kv("a", msg())), dict(kv("", msg()), kv("a", msg())), dict(kv("a", one(5, num(0))))},
		{num(0), num(1)},
		{num(0), num(1), num(1 << 31)},
		{msg(), one(1, num(1)), one(2, text("a")), one(7, msg()), one(7, one(7, msg())), one(6, num(0))},
	}
	var grow func(v api.Value, number int)
	grow = func(v api.Value, number int) {
		if number > len(choices) {
			b, x := e.Encode("p.M", v)
			if x != api.OK {
				t.Fatalf("Encode answers %v of %s", x, short(v))
			}
			back, place, x := strict.Decode(s, "p.M", b)
			if x != api.OK || place != 0 || !same(back, v) {
				t.Fatalf("P1007: Decode(% x) = %s, %d, %v, want %s", b, short(back), place, x, short(v))
			}
			return
		}
		grow(v, number+1)
		if number == 7 && len(v.Fields) > 0 && v.Fields[len(v.Fields)-1].Number == 6 {
			return // of the same oneof
		}
		for _, in := range choices[number-1] {
			grow(msg(append(v.Fields[:len(v.Fields):len(v.Fields)], at(number, in))...), number+1)
		}
	}
	grow(msg(), 1)
}

func TestNotNormal(t *testing.T) { // P1007: the bytes of a typed tree that is not normal are refused
	s := wideSchema()
	refused := 0
	for seed := range int64(3000) {
		m := newMaker(seed)
		v := m.message("w.W", 1+m.Intn(4))
		_, normal := tree.Normal(s, "w.W", v)
		b := m.written("w.W", v)
		_, _, e := strict.Decode(s, "w.W", b)
		back, _, _ := tree.Normalise(s, "w.W", v)
		canonical, _ := encode.New(s).Encode("w.W", back)
		if normal == api.OK && e != api.OK || e == api.OK && !bytes.Equal(canonical, b) {
			t.Fatalf("P1007: of %s (%v) Decode answers %v", short(v), normal, e)
		}
		if e != api.OK {
			refused++
		}
		judged(t, s, "w.W", b)
	}
	if refused < 500 {
		t.Errorf("%d rows are refused: too few", refused)
	}
}

func TestAsWireReads(t *testing.T) { // P1002: what wire refuses, strictly, is refused, at its place or ahead of it
	s := wideSchema()
	refused := 0
	for seed := range int64(3000) {
		m := newMaker(seed)
		v := m.normal("w.W")
		m.rare = 30
		b := m.written("w.W", v)
		_, place, e := strict.Decode(s, "w.W", b)
		if _, split, x := wire.Split(b, true); x != api.OK {
			refused++
			if e == api.OK || place > split {
				t.Fatalf("P1001: of % x Decode answers %v at %d, Split %v at %d", b, e, place, x, split)
			}
		}
	}
	if refused < 500 {
		t.Errorf("%d rows are refused: too few", refused)
	}
}

func TestNothingBehindAFault(t *testing.T) { // P1008: other bytes behind what is at fault, of the same length in all: all bytes, one by one, and many at once
	s := wideSchema()
	for _, c := range wrongs() {
		for _, in := range insides() {
			b := in.bytes(c.b)
			all := rows(b, row("18 01 72 01 61 ff ff 00"))
			if c.ends && in.name == "the top" {
				continue
			}
			_, bad := secondly(s, "w.W", all)
			if bad.err != c.e || bad.at != len(b)-len(c.b)+c.at {
				t.Fatalf("a second reading of % x: %v at %d, want %v at %d", all, bad.err, bad.at, c.e, len(b)-len(c.b)+c.at)
			}
			m := newMaker(int64(len(all)))
			for range 8 {
				d := slices.Clone(all)
				for i := bad.end; i < len(d); i++ {
					d[i] = byte(m.Intn(256))
				}
				answers(t, s, "w.W", d, bad.at, bad.err)
			}
			for i := bad.end; i < len(all); i++ {
				d := slices.Clone(all)
				d[i] ^= 0x80
				answers(t, s, "w.W", d, bad.at, bad.err)
			}
		}
	}
}

func TestFaultsFarAhead(t *testing.T) { // P1008: a fault ahead of as many bytes as there may be
	s := wideSchema()
	for _, c := range wrongs() {
		if c.ends {
			continue
		}
		b := append(slices.Clone(c.b), bytes.Repeat(row("61"), api.MaxMessage-len(c.b))...)
		answers(t, s, "w.W", b, c.at, c.e)
	}
}
