package loose_test

import (
	"slices"
	"testing"

	"sigil/api"
)

// contents are what may stand behind a tag, by wire kind; of WText what is no block of any type but that of varints.
func contents() [][]byte {
	return [][]byte{row("01"), row("01 00 00 00 00 00 00 00"), row("01 07"), row("20 01"), nil, row("01 00 00 00")}
}

func TestEveryCardAndKind(t *testing.T) { // P1103: every field under every wire kind: read, or passed over
	s := wideSchema()
	info, _ := s.Message("w.W")
	read := 0
	for _, f := range info.Fields {
		for kind, in := range contents() {
			b := rows(tag(f.Number, kind), in)
			switch {
			case kind == 4:
				refuses(t, s, "w.W", b, 0, api.ErrGroup)
			case kind == 3:
				b = rows(b, tag(f.Number, 4))
				reads(t, s, "w.W", rows(b, row("f8 ff ff ff 0f 05")), one(far, num(5)), skip(0, f.Number, 3))
			case !expected(f, kind):
				reads(t, s, "w.W", rows(row("f8 ff ff ff 0f 05"), b), one(far, num(5)), skip(6, f.Number, kind))
			default:
				read++
				content := in
				if kind == 2 {
					content = right(f)
				}
				v, at, e := decoded(s, "w.W", rows(tag(f.Number, kind), content))
				if e != api.OK || at != 0 || len(v.Fields) != 1 || v.Fields[0].Number != f.Number {
					t.Errorf("P1103: the field %d (card %d, type %d) under the kind %d: %s, %d, %v", f.Number, f.Card, f.Type, kind, short(v), at, e)
				}
			}
		}
		for kind := 6; kind < 8; kind++ {
			refuses(t, s, "w.W", tag(f.Number, kind), 0, api.ErrKind)
		}
	}
	if lists := 14; read != len(info.Fields)+lists { // each field under its own kind, a list of numbers as a block too
		t.Errorf("P1103: %d records are read, of %d fields", read, len(info.Fields))
	}
}

// expected says whether a wire kind goes with a field, by a list.
func expected(f api.Field, kind int) bool {
	var own []int
	switch f.Type {
	case api.TInt32, api.TInt64, api.TUint32, api.TUint64, api.TSint32, api.TSint64, api.TBool, api.TEnum:
		own = []int{api.WVarint}
	case api.TFixed32, api.TSfixed32, api.TFloat:
		own = []int{api.WFixed32}
	case api.TFixed64, api.TSfixed64, api.TDouble:
		own = []int{api.WFixed64}
	default:
		own = []int{api.WText}
	}
	switch f.Card {
	case api.CMap:
		own = []int{api.WText}
	case api.CRepeated:
		own = append(own, api.WText)
	}
	return slices.Contains(own, kind)
}

// right is what may stand in a record of kind 2 of a field, and is no zero.
func right(f api.Field) []byte {
	switch {
	case f.Card == api.CRepeated && kindOf(f.Type) == 1:
		return rows(row("08"), contents()[1])
	case f.Card == api.CRepeated && kindOf(f.Type) == 5:
		return rows(row("04"), contents()[5])
	case f.Card == api.CMap, f.Type == api.TMessage:
		return row("00")
	}
	return contents()[2]
}

func TestPairsUnderEveryKind(t *testing.T) { // P1103: keys and values of every type under every wire kind: neither takes a block
	s := wideSchema()
	for _, typ := range keyTypes {
		for kind, in := range contents() {
			b := record(keyed+typ, tag(1, kind), in, row("10 07"))
			place := len(b) - len(tag(1, kind)) - len(in) - 2
			switch {
			case kind == 4:
				refuses(t, s, "w.W", b, place, api.ErrGroup)
			case kind == 3:
				b = record(keyed+typ, tag(1, kind), in, row("0c 10 07"))
				reads(t, s, "w.W", b, one(keyed+typ, dict(pair(zeroOf(typ), num(7)))), skip(place, 1, 3, keyed+typ))
			case kind == kindOf(typ):
				key := num(1)
				if typ == api.TSint32 || typ == api.TSint64 {
					key = num(-1)
				}
				if typ == api.TString {
					key = text("\x07")
				}
				reads(t, s, "w.W", b, one(keyed+typ, dict(pair(key, num(7)))))
			default:
				reads(t, s, "w.W", b, one(keyed+typ, dict(pair(zeroOf(typ), num(7)))), skip(place, 1, kind, keyed+typ))
			}
		}
	}
	for typ := api.TDouble; typ <= api.TEnum; typ++ {
		for kind, in := range contents() {
			if kind == 3 || kind == 4 || kind == kindOf(typ) {
				continue
			}
			b := record(mapped+typ, row("0a 01 6b"), tag(2, kind), in)
			reads(t, s, "w.W", b, one(mapped+typ, dict(kv("k", zeroOf(typ)))), skip(len(b)-len(in)-1, 2, kind, mapped+typ))
		}
	}
}

// zeroOf is the zero of a type.
func zeroOf(typ int) api.Value {
	switch typ {
	case api.TString, api.TBytes:
		return text("")
	case api.TMessage:
		return msg()
	}
	return num(0)
}

func TestListsInAnyMix(t *testing.T) { // P1103: lists of every numeric type by blocks and one by one, in any mix, with other fields between
	s := wideSchema()
	for typ := api.TDouble; typ <= api.TEnum; typ++ {
		kind := kindOf(typ)
		if kind == 2 {
			continue
		}
		number := func(n int) []byte { // the number n
			b := make([]byte, map[int]int{0: 1, 1: 8, 5: 4}[kind])
			b[0] = byte(n)
			if typ == api.TSint32 || typ == api.TSint64 {
				b[0] = byte(2 * n)
			}
			return b
		}
		lone := func(n int) []byte { return rows(tag(repeated+typ, kind), number(n)) }
		block := func(l ...int) []byte {
			var b []byte
			for _, n := range l {
				b = append(b, number(n)...)
			}
			return record(repeated+typ, b)
		}
		between := []byte(nil)
		for range 2 {
			for _, c := range []struct {
				b    [][]byte
				want []int
			}{
				{[][]byte{block()}, nil}, {[][]byte{block(), block()}, nil}, {[][]byte{block(1)}, []int{1}}, {[][]byte{lone(1)}, []int{1}}, {[][]byte{block(1, 0, 1)}, []int{1, 0, 1}}, {[][]byte{block(0)}, []int{0}}, {[][]byte{lone(0)}, []int{0}},
				{[][]byte{lone(1), lone(0), lone(1)}, []int{1, 0, 1}}, {[][]byte{lone(1), block(0, 1), lone(0)}, []int{1, 0, 1, 0}}, {[][]byte{block(1, 0), lone(1), block(), block(0, 0), lone(0), lone(1)}, []int{1, 0, 1, 0, 0, 0, 1}}, {[][]byte{block(), lone(1)}, []int{1}}, {[][]byte{lone(1), block()}, []int{1}}, {[][]byte{block(1), block(0), block(1)}, []int{1, 0, 1}},
			} {
				var all []byte
				for _, b := range c.b {
					all = rows(all, b, between)
				}
				want, l := msg(), list()
				for _, n := range c.want {
					l.List = append(l.List, num(n))
				}
				if len(l.List) > 0 {
					want.Fields = append(want.Fields, at(repeated+typ, l))
				}
				if len(between) > 0 {
					want.Fields = append(want.Fields, at(far, num(9)))
				}
				reads(t, s, "w.W", all, want)
			}
			between = rows(tag(far, 0), row("09"))
		}
	}
}

func TestBlocksOfNoList(t *testing.T) { // P1103: a block goes with a list alone: under a single, optional field or a member it is passed over
	s := wideSchema()
	for typ := api.TDouble; typ <= api.TEnum; typ++ {
		for _, base := range []int{single, optional, member} {
			if kindOf(typ) != 2 {
				reads(t, s, "w.W", record(base+typ, make([]byte, 8)), msg(), skip(0, base+typ, 2))
				reads(t, s, "w.W", record(base+typ), msg(), skip(0, base+typ, 2))
				reads(t, s, "w.W", rows(tag(far, 0), row("05"), record(base+typ, row("80"))), one(far, num(5)), skip(6, base+typ, 2))
			}
		}
	}
	// One that is passed over takes away no member, and changes no field.
	reads(t, s, "w.W", rows(tag(member+4, 0), row("00"), record(member+3, row("01"))), one(member+4, num(0)), skip(3, member+3, 2))
	reads(t, s, "w.W", rows(tag(3, 0), row("07"), record(3, row("01"))), one(3, num(7)), skip(2, 3, 2))
	reads(t, s, "w.W", rows(tag(3, 0), row("07"), tag(3, 5), row("00 00 00 00")), one(3, num(7)), skip(2, 3, 5))
}

func TestListsOfTexts(t *testing.T) { // P1103: lists of texts and messages: one record each, never a block
	s := wideSchema()
	reads(t, s, "w.W", rows(record(repeated+api.TString), record(repeated+api.TString, row("01 02")), record(repeated+api.TBytes, row("ff")), record(repeated+api.TString)), msg(at(repeated+api.TString, list(text(""), text("\x01\x02"), text(""))), at(repeated+api.TBytes, list(text("\xff")))))
	reads(t, s, "w.W", rows(record(repeated+api.TMessage, row("18 01")), record(repeated+api.TMessage), row("18 09"), record(repeated+api.TMessage, row("18 02 18 00"))), msg(at(3, num(9)), at(repeated+api.TMessage, list(one(3, num(1)), msg(), msg()))))
	reads(t, s, "w.W", rows(tag(repeated+api.TString, 0), row("01"), tag(repeated+api.TMessage, 5), row("01 02 03 04")), msg(), skip(0, repeated+api.TString, 0), skip(3, repeated+api.TMessage, 5))
}

func TestAnyOrder(t *testing.T) { // P13, P1101: every two fields of a message, either first: the tree is in order
	s := wideSchema()
	info, _ := s.Message("w.W")
	lone := func(f api.Field) []byte {
		if f.Card == api.CMap || f.Card == api.CRepeated && kindOf(f.Type) != 2 {
			return rows(tag(f.Number, 2), right(f))
		}
		if kindOf(f.Type) == 2 {
			return rows(tag(f.Number, 2), right(f))
		}
		return rows(tag(f.Number, kindOf(f.Type)), contents()[kindOf(f.Type)])
	}
	for i, f := range info.Fields {
		for j, g := range info.Fields {
			if i == j || f.Oneof > 0 && f.Oneof == g.Oneof {
				continue
			}
			v, at, e := decoded(s, "w.W", rows(lone(f), lone(g)))
			if e != api.OK || at != 0 || len(v.Fields) != 2 || v.Fields[0].Number != min(f.Number, g.Number) || v.Fields[1].Number != max(f.Number, g.Number) {
				t.Fatalf("P1101: the fields %d and %d are read as %s, %d, %v", f.Number, g.Number, short(v), at, e)
			}
		}
	}
}

func TestTheLastWins(t *testing.T) { // P13: a single or optional field of every scalar type takes the place of what was there; a zero that comes last is taken out, or stays
	s := wideSchema()
	for typ := api.TDouble; typ <= api.TEnum; typ++ {
		kind := kindOf(typ)
		zero := [][]byte{row("00"), make([]byte, 8), row("00"), nil, nil, make([]byte, 4)}[kind]
		other := contents()[kind]
		v, _, _ := decoded(s, "w.W", rows(tag(optional+typ, kind), other))
		if len(v.Fields) != 1 {
			t.Fatalf("P1101: the field %d: %s", optional+typ, short(v))
		}
		in := v.Fields[0].Value
		for _, base := range []int{single, optional, member} {
			a, b := rows(tag(base+typ, kind), other), rows(tag(base+typ, kind), zero)
			reads(t, s, "w.W", rows(a, a), one(base+typ, in))
			reads(t, s, "w.W", rows(b, a), one(base+typ, in))
			reads(t, s, "w.W", rows(a, row("f8 ff ff ff 0f 05"), b, a), msg(at(base+typ, in), at(far, num(5))))
			want := one(base+typ, zeroOf(typ))
			if base == single {
				want = msg()
			}
			reads(t, s, "w.W", b, want)
			reads(t, s, "w.W", rows(a, b), want)
			reads(t, s, "w.W", rows(a, a, b, b), want)
		}
	}
}
