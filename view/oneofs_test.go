package view_test

import (
	"testing"

	"sigil/api"
)

func TestMembers(t *testing.T) { // P2101: of all records of members of a oneof the last one decides; a message has the pieces that stand behind the last other member
	for _, c := range []struct {
		b       string
		f, g    any // of Get
		content any
		a       any // of g.a
	}{
		{"", nil, nil, nil, nil},
		{"35 00 00 00 00", num(0), nil, nil, nil},
		{"35 00 00 00 00 35 07 00 00 00", num(7), nil, nil, nil},
		{"3a 00", nil, msg(), "", nil},
		{"3a 02 08 05", nil, one(1, num(5)), "08 05", num(5)},
		{"3a 02 08 05 35 00 00 00 00", num(0), nil, nil, nil},
		{"3a 02 08 05 35 00 00 00 00 3a 00", nil, msg(), "", nil},
		{"3a 02 08 05 35 00 00 00 00 3a 02 08 06 3a 02 12 00", nil, one(1, num(6)), "08 06 12 00", num(6)},
		{"3a 02 08 05 3a 02 08 06 35 00 00 00 00", num(0), nil, nil, nil},
		{"3a 02 08 05 08 01 3a 00 12 01 78 3a 02 08 00", nil, msg(), "08 05 08 00", nil}, // other fields between
		{"3a 02 08 05 30 07", nil, one(1, num(5)), "08 05", num(5)},                      // a record of the wrong kind is none of the member
		{"35 01 00 00 00 38 05", num(1), nil, nil, nil},
		{"35 01 00 00 00 3b 35 02 00 00 00 3c", num(1), nil, nil, nil}, // nor is a group, or what lies in one
		{"3a 02 08 05 43 35 02 00 00 00 44 3a 02 12 00", nil, one(1, num(5)), "08 05 12 00", num(5)},
		{"3a 01 00 35 01 00 00 00 3a 02 08 05", nil, one(1, num(5)), "08 05", num(5)}, // what was taken away is not looked at
		{"3a 01 00 35 01 00 00 00", num(1), nil, nil, nil},
	} {
		v := opens(t, c.b)
		v.scalar(t, "f", c.f)
		v.message(t, "g", c.g, c.content)
		v.scalar(t, "g.a", c.a)
		in := open(t, smallSchema(), "p.M", record(4, row("0a 01 6b"), record(2, row(c.b))))
		in.scalar(t, `d["k"].f`, c.f)
		in.message(t, `d["k"].g`, c.g, c.content)
		in.scalar(t, `d["k"].g.a`, c.a)
	}
}

func TestEveryTwoMembers(t *testing.T) { // P2101: members of every type, each behind each other one, and again behind it; those of another oneof take nothing away
	s := wideSchema()
	content := func(typ int) []byte {
		return rows(tag(member+typ, kindOf(typ)), map[int][]byte{0: row("05"), 1: row("05 00 00 00 00 00 00 00"), 2: row("02 18 07"), 5: row("05 00 00 00")}[kindOf(typ)])
	}
	says := func(typ int) any {
		switch {
		case typ == api.TMessage:
			return one(3, num(7))
		case kindOf(typ) == 2:
			return text("\x18\x07")
		}
		return num(numberOf(typ, 5))
	}
	look := func(b []byte, typ, is int, content string) {
		t.Helper()
		v, p := open(t, s, "w.W", b), named("x", typ, "")
		got := says(typ)
		if typ != is {
			got = nil
		}
		if typ < api.TMessage {
			v.scalar(t, p, got)
			return
		}
		if got == nil {
			v.message(t, p, nil, nil)
			return
		}
		v.message(t, p, got, content)
	}
	for x := api.TDouble; x <= api.TMessage; x++ {
		for y := api.TDouble; y <= api.TMessage; y++ {
			far := rows(tag(other, 0), row("01"), tag(other+1, 0), row("05"))
			b := rows(content(x), far, content(y))
			if x == y {
				look(b, y, y, "18 07 18 07")
			} else {
				look(b, x, y, "")
				look(b, y, y, "18 07")
				b = rows(b, content(x))
				look(b, x, x, "18 07")
				look(b, y, x, "")
			}
			v := open(t, s, "w.W", b)
			v.scalar(t, "q0", nil)
			v.scalar(t, "q1", num(5))
		}
	}
}

func TestMembersAlone(t *testing.T) { // P2101: a member holds a zero; a field outside its oneof has a number of its own
	s := load(t, `syntax = "proto3"; message M { oneof o { int32 a = 2; string b = 3; } int32 c = 1; oneof p { M m = 4; int32 d = 5; } }`)
	for _, c := range []struct {
		b          string
		a, b2, c   any
		m, content any
		d          any
	}{
		{"10 00 08 01 22 00", num(0), nil, num(1), msg(), "", nil},
		{"1a 00 22 02 08 01 28 00 08 07", nil, text(""), num(7), nil, nil, num(0)},
		{"10 01 1a 01 78 28 01 22 02 08 01 22 02 10 02", nil, text("x"), nil, msg(at(1, num(1)), at(2, num(2))), "08 01 10 02", nil},
	} {
		v := open(t, s, "M", row(c.b))
		v.scalar(t, "a", c.a)
		v.scalar(t, "b", c.b2)
		v.scalar(t, "c", c.c)
		v.message(t, "m", c.m, c.content)
		v.scalar(t, "d", c.d)
	}
}

func TestMembersInPieces(t *testing.T) { // P2101: members in the pieces of one message: the order is that of all pieces
	pieces := [][]byte{row("35 01 00 00 00"), row("3a 02 08 01"), row("3a 02 08 02 35 03 00 00 00"), row("3a 03 08 83 00"), nil}
	for _, order := range [][]int{{0, 1}, {1, 0}, {2, 3}, {3, 2}, {0, 1, 2, 3}, {3, 2, 1, 0}, {1, 3, 1}, {1, 2, 4}, {2, 4, 1, 4, 3}} {
		var b, all []byte
		for _, i := range order {
			b = append(b, record(unknown, record(7))...)
			b = append(b, record(7, pieces[i])...)
			all = append(all, pieces[i]...)
		}
		v := open(t, smallSchema(), "p.M", b)
		alone := open(t, smallSchema(), "p.M", all)
		for _, p := range []string{"f", "g", "g.a"} {
			w := ofSmall().says("p.M", all, parsed(t, alone, p))
			v.asked(t, "g."+p, w.has, w.got, w.size, w.content)
			alone.asked(t, p, w.has, w.got, w.size, w.content)
		}
	}
}
