package loose_test

import (
	"fmt"
	"testing"

	"sigil/api"
)

func TestMembers(t *testing.T) { // P13: members of a oneof one behind another: the last one is there, a zero too; messages are merged, unless another member stood between
	s := load(t, `syntax = "proto3"; message M { oneof a { int32 b = 1; M c = 3; bytes d = 5; } oneof e { sint32 f = 2; string g = 4; M h = 7; } int32 i = 6; repeated M l = 8; map<int32, M> m = 9; }`)
	for _, c := range []struct {
		b    string
		want api.Value
	}{
		{"08 00", one(1, num(0))}, {"1a 00", one(3, msg())}, {"2a 00", one(5, text(""))}, {"10 00", one(2, num(0))}, {"22 00", one(4, text(""))},
		{"08 05 1a 00", one(3, msg())}, {"1a 02 08 05 08 00", one(1, num(0))}, {"2a 01 ff 08 07", one(1, num(7))}, {"08 07 2a 00", one(5, text(""))}, {"08 01 1a 00 2a 01 61", one(5, text("a"))}, {"2a 01 61 1a 00 08 01", one(1, num(1))},
		{"08 01 08 02", one(1, num(2))}, {"08 01 08 00", one(1, num(0))}, {"2a 01 61 2a 00", one(5, text(""))},
		// merged
		{"1a 02 30 01 1a 00", one(3, one(6, num(1)))}, {"1a 02 30 01 1a 02 10 02", one(3, msg(at(2, num(1)), at(6, num(1))))}, {"1a 02 30 01 1a 02 30 00", one(3, msg())}, {"1a 02 08 01 1a 02 2a 00", one(3, one(5, text("")))}, {"1a 04 1a 02 30 01 1a 04 1a 02 10 02", one(3, one(3, msg(at(2, num(1)), at(6, num(1)))))},
		{"1a 02 42 00 30 05 1a 02 42 00", msg(at(3, one(8, list(msg(), msg()))), at(6, num(5)))},
		// replaced, since another member stood between
		{"1a 02 30 01 08 00 1a 02 10 02", one(3, one(2, num(1)))}, {"1a 02 30 01 2a 00 1a 00", one(3, msg())}, {"1a 06 1a 02 30 01 08 00 1a 04 1a 02 10 02", one(3, one(3, one(2, num(1))))},
		{"1a 04 1a 02 30 01 1a 02 08 00 1a 04 1a 02 10 02", one(3, one(3, one(2, num(1))))},
		// two oneofs do not touch one another
		{"08 01 10 02", msg(at(1, num(1)), at(2, num(1)))}, {"22 00 08 00 3a 00 1a 00", msg(at(3, msg()), at(7, msg()))}, {"1a 02 30 01 10 00 1a 02 10 02", msg(at(2, num(0)), at(3, msg(at(2, num(1)), at(6, num(1)))))},
		// nor those of messages within
		{"08 05 3a 02 1a 00", msg(at(1, num(5)), at(7, one(3, msg())))}, {"42 02 08 00 42 02 1a 00", one(8, list(one(1, num(0)), one(3, msg())))}, {"4a 08 12 02 08 00 12 02 1a 00", one(9, dict(pair(num(0), one(3, msg()))))},
		{"4a 04 12 02 08 00 4a 04 12 02 1a 00", one(9, dict(pair(num(0), one(3, msg()))))},
	} {
		reads(t, s, "M", row(c.b), c.want)
	}
}

func TestMembersOfEveryType(t *testing.T) { // P13: every two members of a oneof, either first: the last one alone is there
	s := wideSchema()
	zeros := [][]byte{row("00"), make([]byte, 8), row("00"), nil, nil, make([]byte, 4)}
	for a := api.TDouble; a <= api.TMessage; a++ {
		for b := api.TDouble; b <= api.TMessage; b++ {
			first, then := rows(tag(member+a, kindOf(a)), zeros[kindOf(a)]), rows(tag(member+b, kindOf(b)), zeros[kindOf(b)])
			reads(t, s, "w.W", rows(first, then), one(member+b, zeroOf(b)))
			reads(t, s, "w.W", rows(first, tag(other, 0), row("00"), then), msg(at(member+b, zeroOf(b)), at(other, num(0))))
			reads(t, s, "w.W", rows(first, then, first), one(member+a, zeroOf(a)))
		}
	}
}

func TestPassedOverMembers(t *testing.T) { // P13: a record that is passed over takes no member away
	s := smallSchema()
	reads(t, s, "p.M", row("35 01 00 00 00 38 01"), one(6, num(1)), skip(5, 7, 0))
	reads(t, s, "p.M", row("35 01 00 00 00 3b 3c"), one(6, num(1)), skip(5, 7, 3))
	reads(t, s, "p.M", row("3a 02 08 01 32 04 00 00 00 00 3a 02 18 02"), one(7, msg(at(1, num(1)), at(3, list(num(1))))), skip(4, 6, 2))
}

func TestManyOneofs(t *testing.T) { // P13: as many oneofs as there may be, the members of each in turns
	text := `syntax = "proto3"; message M {`
	first, then := []byte(nil), []byte(nil)
	v, w := msg(), msg()
	for i := range api.MaxFields / 2 {
		text += fmt.Sprintf("oneof o%d { int32 a%d = %d; bool b%d = %d; }", i, i, i+1, i, i+1001)
		first, v.Fields = append(first, rows(tag(i+1, 0), row("00"))...), append(v.Fields, at(i+1, num(0)))
		then, w.Fields = append(then, rows(tag(i+1001, 0), row("00"))...), append(w.Fields, at(i+1001, num(0)))
	}
	s := load(t, text+"}")
	reads(t, s, "M", first, v)
	reads(t, s, "M", rows(first, then), w)
	reads(t, s, "M", rows(then, first), v)
	merges(t, s, "M", v, w, w)
	merges(t, s, "M", w, v, v)
}

func TestMessagesMerged(t *testing.T) { // P13: a message that comes again is merged, at every level, as if the bytes of both stood one behind the other
	s := wideSchema()
	for _, base := range []int{single, optional, member} {
		number := base + api.TMessage
		for seed := range int64(150) {
			m := newMaker(seed)
			var all, apart []byte
			for range 1 + m.Intn(4) {
				b := m.written("w.W", 1+m.Intn(3))
				all, apart = append(all, b...), append(apart, record(number, b)...)
			}
			v, _, e := decoded(s, "w.W", record(number, all))
			w, _, f := decoded(s, "w.W", apart)
			if e != f || e != api.OK || !same(v, w) {
				t.Fatalf("P13: messages one by one are %s, %v, their bytes together %s, %v", short(w), f, short(v), e)
			}
		}
	}
	// In a list they stay apart.
	reads(t, s, "w.W", rows(record(repeated+api.TMessage, row("18 01")), record(repeated+api.TMessage, row("20 01"))), one(repeated+api.TMessage, list(one(3, num(1)), one(4, num(1)))))
}
