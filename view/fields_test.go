package view_test

import (
	"encoding/binary"
	"fmt"
	"math"
	"slices"
	"strconv"
	"testing"

	"sigil/api"
)

// worth is what the bits of a varint mean, by type.
type worth struct {
	bits                                                             uint64
	int32s, int64s, uint32s, uint64s, sint32s, sint64s, bools, enums int
}

// worths are varints of few and of many bits, with what each type makes of them.
func worths() []worth {
	const least, most = math.MinInt32, math.MaxInt32
	return []worth{
		{0, 0, 0, 0, 0, 0, 0, 0, 0},
		{1, 1, 1, 1, 1, -1, -1, 1, 1},
		{2, 2, 2, 2, 2, 1, 1, 1, 2},
		{128, 128, 128, 128, 128, 64, 64, 1, 128},
		{1<<31 - 1, most, most, most, most, -1 << 30, -1 << 30, 1, most},
		{1 << 31, least, 1 << 31, 1 << 31, 1 << 31, 1 << 30, 1 << 30, 1, least},
		{1<<32 - 1, -1, 1<<32 - 1, 1<<32 - 1, 1<<32 - 1, least, least, 1, -1},
		{1 << 32, 0, 1 << 32, 0, 1 << 32, 0, 1 << 31, 1, 0},
		{1<<32 + 5, 5, 1<<32 + 5, 5, 1<<32 + 5, -3, -1<<31 - 3, 1, 5},
		{0x123456789abcdef0, -0x65432110, 0x123456789abcdef0, 0x9abcdef0, 0x123456789abcdef0, 0x4d5e6f78, 0x091a2b3c4d5e6f78, 1, -0x65432110},
		{1 << 63, 0, math.MinInt, 0, math.MinInt, 0, 1 << 62, 1, 0},
		{1<<64 - 1<<31, least, least, 1 << 31, least, 1 << 30, math.MaxInt - 1<<30 + 1, 1, least},
		{1<<64 - 2, -2, -2, 1<<32 - 2, -2, most, math.MaxInt, 1, -2},
		{1<<64 - 1, -1, -1, 1<<32 - 1, -1, least, math.MinInt, 1, -1},
	}
}

// of is what a type makes of the bits.
func (w worth) of(typ int) int {
	return map[int]int{api.TInt32: w.int32s, api.TInt64: w.int64s, api.TUint32: w.uint32s, api.TUint64: w.uint64s, api.TSint32: w.sint32s, api.TSint64: w.sint64s, api.TBool: w.bools, api.TEnum: w.enums}[typ]
}

// varints are the types that stand as varints.
var varints = []int{api.TInt32, api.TInt64, api.TUint32, api.TUint64, api.TSint32, api.TSint64, api.TBool, api.TEnum}

// named is a path of a word, made of a letter and a type, and what goes on behind it.
func named(letter string, typ int, more string) string {
	return fmt.Sprintf("%s%d%s", letter, typ, more)
}

// keyText is an inside that writes a key.
func keyText(typ, n int) string {
	switch typ {
	case api.TBool:
		return "[" + strconv.FormatBool(n == 1) + "]"
	case api.TUint64, api.TFixed64:
		return "[" + strconv.FormatUint(uint64(n), 10) + "]"
	}
	return "[" + strconv.Itoa(n) + "]"
}

// everywhere looks whether a number without a tag is read as a value, in a field of every card.
func everywhere(t *testing.T, typ int, b []byte, n int) {
	t.Helper()
	s, kind := wideSchema(), kindOf(typ)
	v := open(t, s, "w.W", rows(tag(single+typ, kind), b, tag(optional+typ, kind), b, tag(member+typ, kind), b, tag(repeated+typ, kind), b, record(repeated+typ, b, b), record(mapped+typ, tag(2, kind), b)))
	if n == 0 {
		v.scalar(t, named("s", typ, ""), nil)
	} else {
		v.scalar(t, named("s", typ, ""), num(n))
	}
	v.scalar(t, named("o", typ, ""), num(n))
	v.scalar(t, named("x", typ, ""), num(n))
	v.many(t, named("r", typ, ""), list(num(n), num(n), num(n)), 3)
	v.scalar(t, named("r", typ, "[2]"), num(n))
	v.scalar(t, named("r", typ, "[3]"), nil)
	v.many(t, named("m", typ, ""), dict(kv("", num(n))), 1)
	v.scalar(t, named("m", typ, `[""]`), num(n))
	if slices.Contains(keyTypes, typ) {
		v = open(t, s, "w.W", record(keyed+typ, tag(1, kind), b, row("10 07")))
		v.many(t, named("k", typ, ""), dict(pair(num(n), num(7))), 1)
		v.scalar(t, named("k", typ, keyText(typ, n)), num(7))
		v.scalar(t, named("k", typ, keyText(typ, n^1)), nil)
	}
}

func TestVarints(t *testing.T) { // P2101: numbers by every type and card, of which the low bits alone count, as short and as long as they may be
	for _, w := range worths() {
		b := binary.AppendUvarint(nil, w.bits)
		for _, typ := range varints {
			everywhere(t, typ, b, w.of(typ))
			everywhere(t, typ, longer(b, 10), w.of(typ))
		}
	}
}

func TestFixedNumbers(t *testing.T) { // P2101: numbers of four and of eight bytes
	for _, u := range []uint32{0, 1, 0x01020304, 0x3f800000, 1<<31 - 1, 1 << 31, 1<<32 - 1} {
		b := binary.LittleEndian.AppendUint32(nil, u)
		everywhere(t, api.TFixed32, b, int(u))
		everywhere(t, api.TFloat, b, int(u)) // -0 has other bits than 0
		everywhere(t, api.TSfixed32, b, int(int32(u)))
	}
	for _, u := range []uint64{0, 1, 0x0102030405060708, 0x3ff0000000000000, 1<<63 - 1, 1 << 63, 1<<64 - 1} {
		b := binary.LittleEndian.AppendUint64(nil, u)
		for _, typ := range []int{api.TFixed64, api.TSfixed64, api.TDouble} {
			everywhere(t, typ, b, int(u))
		}
	}
}

func TestLastRecord(t *testing.T) { // P2101: a single or optional field is what its last record says; an implicit zero is not there, whatever was said ahead of it
	s := wideSchema()
	for typ := api.TDouble; typ < api.TMessage; typ++ {
		zero, five := make([]byte, map[int]int{0: 1, 1: 8, 2: 1, 5: 4}[kindOf(typ)]), []byte{}
		five = slices.Clone(zero)
		five[0] = 5
		none, some := num(0), num(numberOf(typ, 5))
		if kindOf(typ) == 2 {
			zero, five = row("00"), row("01 05")
			none, some = text(""), text("\x05")
		}
		for _, letter := range []string{"s", "o"} {
			n := typ
			if letter == "o" {
				n += optional
			}
			z, f := rows(tag(n, kindOf(typ)), zero), rows(tag(n, kindOf(typ)), five)
			word, absent := named(letter, typ, ""), any(none)
			if letter == "s" {
				absent = nil
			}
			open(t, s, "w.W", nil).scalar(t, word, nil)
			open(t, s, "w.W", z).scalar(t, word, absent)
			open(t, s, "w.W", f).scalar(t, word, some)
			open(t, s, "w.W", rows(f, z)).scalar(t, word, absent)
			open(t, s, "w.W", rows(z, f)).scalar(t, word, some)
			open(t, s, "w.W", rows(f, z, row("a0 06 01"), f)).scalar(t, word, some)
		}
	}
}

// wrongKinds are records of a field of every wire kind but those that go with it.
func wrongKinds(f api.Field) [][]byte {
	var l [][]byte
	for _, kind := range []int{0, 1, 2, 3, 5} {
		if !goes(f, kind) {
			content := map[int][]byte{0: row("07"), 1: make([]byte, 8), 2: row("01 ff"), 3: rows(row("18 07 72 01 ff"), tag(f.Number, 4)), 5: row("07 00 00 00")}[kind]
			l = append(l, rows(tag(f.Number, kind), content))
		}
	}
	return l
}

func TestWrongKinds(t *testing.T) { // P2101, P13: a record of a kind that does not go with a field is none of it: of every field, in a message and in a pair
	s := wideSchema()
	info, _ := s.Message("w.W")
	for _, f := range info.Fields {
		for _, b := range wrongKinds(f) {
			v := open(t, s, "w.W", rows(b, b))
			v.message(t, "", msg(), fmt.Sprintf("%x", rows(b, b)))
			if there, e := v.Has(f.Name); there || e != api.OK {
				t.Errorf("P2102: %s: Has(%q) = %v, %v", some(b), f.Name, there, e)
			}
		}
	}
	for typ := api.TDouble; typ <= api.TMessage; typ++ {
		for _, b := range wrongKinds(api.Field{Number: 2, Card: api.COptional, Type: typ}) {
			open(t, s, "w.W", record(mapped+typ, b)).many(t, named("m", typ, ""), dict(kv("", zeroOf(typ))), 1)
		}
		if slices.Contains(keyTypes, typ) {
			for _, b := range wrongKinds(api.Field{Number: 1, Card: api.COptional, Type: typ}) {
				open(t, s, "w.W", record(keyed+typ, b, row("10 07"))).many(t, named("k", typ, ""), dict(pair(zeroOf(typ), num(7))), 1)
			}
		}
	}
}

// zeroOf is the zero of a type.
func zeroOf(typ int) api.Value {
	switch {
	case typ == api.TMessage:
		return msg()
	case kindOf(typ) == 2:
		return text("")
	}
	return num(0)
}

func TestUnknown(t *testing.T) { // P2101: unknown records, and groups with all in them, are passed over, wherever they stand
	s := smallSchema()
	for _, c := range []string{"40 01", "41 01 02 03 04 05 06 07 08", "42 01 ff", "45 01 02 03 04", "0b 08 07 0c", "43 0b 08 07 0c 12 01 ff 3a 01 00 44", "f8 ff ff ff 0f 01", "3b 3c", "0d 01 02 03 04", "38 05", "10 05", "22 00 23 24"} {
		pairs := 0
		if c == "22 00 23 24" {
			pairs = 1
		}
		for _, order := range []string{c + "08 05 18 02", "08 05" + c + "18 02", "08 05 18 02" + c} {
			v := opens(t, order)
			v.scalar(t, "a", num(5))
			v.many(t, "c", list(num(1)), 1)
			v.scalar(t, "b", nil)
			v.message(t, "g", nil, nil)
			if n, e := v.Len("d"); n != pairs || e != api.OK {
				t.Errorf("P2104: %s: %d, %v", order, n, e)
			}
			in := open(t, s, "p.M", record(7, row(order)))
			in.scalar(t, "g.a", num(5))
			in.scalar(t, "g.c[0]", num(1))
		}
	}
}
