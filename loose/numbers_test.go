package loose_test

import (
	"bytes"
	"encoding/binary"
	"fmt"
	"math"
	"testing"

	"sigil/api"
)

// worth is what the bits of a varint mean, by type.
type worth struct {
	bits                                                             uint64
	int32s, int64s, uint32s, uint64s, sint32s, sint64s, bools, enums int
}

// worths are varints of few and of many bits, with what each type makes of them.
func worths() []worth {
	const least, most = math.MinInt32, math.MaxInt32
	return []worth{
		{0, 0, 0, 0, 0, 0, 0, 0, 0},
		{1, 1, 1, 1, 1, -1, -1, 1, 1},
		{2, 2, 2, 2, 2, 1, 1, 1, 2},
		{3, 3, 3, 3, 3, -2, -2, 1, 3},
		{128, 128, 128, 128, 128, 64, 64, 1, 128},
		{1<<31 - 1, most, most, most, most, -1 << 30, -1 << 30, 1, most},
		{1 << 31, least, 1 << 31, 1 << 31, 1 << 31, 1 << 30, 1 << 30, 1, least},
		{1<<31 + 1, least + 1, 1<<31 + 1, 1<<31 + 1, 1<<31 + 1, -1<<30 - 1, -1<<30 - 1, 1, least + 1},
		{1<<32 - 2, -2, 1<<32 - 2, 1<<32 - 2, 1<<32 - 2, most, most, 1, -2},
		{1<<32 - 1, -1, 1<<32 - 1, 1<<32 - 1, 1<<32 - 1, least, least, 1, -1},
		{1 << 32, 0, 1 << 32, 0, 1 << 32, 0, 1 << 31, 1, 0},
		{1<<32 + 1, 1, 1<<32 + 1, 1, 1<<32 + 1, -1, -1<<31 - 1, 1, 1},
		{1<<32 + 5, 5, 1<<32 + 5, 5, 1<<32 + 5, -3, -1<<31 - 3, 1, 5},
		{1<<33 - 1, -1, 1<<33 - 1, 1<<32 - 1, 1<<33 - 1, least, -1 << 32, 1, -1},
		{1 << 40, 0, 1 << 40, 0, 1 << 40, 0, 1 << 39, 1, 0},
		{0x123456789abcdef0, -0x65432110, 0x123456789abcdef0, 0x9abcdef0, 0x123456789abcdef0, 0x4d5e6f78, 0x091a2b3c4d5e6f78, 1, -0x65432110},
		{1<<63 - 1, -1, math.MaxInt, 1<<32 - 1, math.MaxInt, least, -1 << 62, 1, -1},
		{1 << 63, 0, math.MinInt, 0, math.MinInt, 0, 1 << 62, 1, 0},
		{1<<63 + 7, 7, math.MinInt + 7, 7, math.MinInt + 7, -4, -1<<62 - 4, 1, 7},
		{1<<64 - 1<<31, least, least, 1 << 31, least, 1 << 30, math.MaxInt - 1<<30 + 1, 1, least},
		{1<<64 - 1<<31 - 1, most, least - 1, most, least - 1, -1 << 30, math.MinInt + 1<<30, 1, most},
		{1<<64 - 1<<32, 0, -1 << 32, 0, -1 << 32, 0, math.MaxInt - 1<<31 + 1, 1, 0},
		{1<<64 - 2, -2, -2, 1<<32 - 2, -2, most, math.MaxInt, 1, -2},
		{1<<64 - 1, -1, -1, 1<<32 - 1, -1, least, math.MinInt, 1, -1},
	}
}

// of is what a type makes of the bits.
func (w worth) of(typ int) int {
	return map[int]int{api.TInt32: w.int32s, api.TInt64: w.int64s, api.TUint32: w.uint32s, api.TUint64: w.uint64s, api.TSint32: w.sint32s, api.TSint64: w.sint64s, api.TBool: w.bools, api.TEnum: w.enums}[typ]
}

// varints are the types that stand as varints.
var varints = []int{api.TInt32, api.TInt64, api.TUint32, api.TUint64, api.TSint32, api.TSint64, api.TBool, api.TEnum}

// everywhere looks whether a number without a tag is read as a value, in a field of every card.
func everywhere(t *testing.T, typ int, b []byte, n int) {
	t.Helper()
	s, kind := wideSchema(), kindOf(typ)
	want := msg()
	if n != 0 {
		want = one(single+typ, num(n))
	}
	reads(t, s, "w.W", rows(tag(single+typ, kind), b), want)
	reads(t, s, "w.W", rows(tag(optional+typ, kind), b), one(optional+typ, num(n)))
	reads(t, s, "w.W", rows(tag(member+typ, kind), b), one(member+typ, num(n)))
	reads(t, s, "w.W", rows(tag(repeated+typ, kind), b), one(repeated+typ, list(num(n))))
	reads(t, s, "w.W", record(repeated+typ, b), one(repeated+typ, list(num(n))))
	reads(t, s, "w.W", record(repeated+typ, b, b, b), one(repeated+typ, list(num(n), num(n), num(n))))
	reads(t, s, "w.W", record(mapped+typ, tag(2, kind), b), one(mapped+typ, dict(kv("", num(n)))))
	if _, e := s.Field("w.W", keyed+typ); e == api.OK {
		reads(t, s, "w.W", record(keyed+typ, tag(1, kind), b), one(keyed+typ, dict(pair(num(n), num(0)))))
	}
}

func TestLowBits(t *testing.T) { // P13, P1101: numbers whose low bits alone count, by every type, as short and as long as they may be
	for _, w := range worths() {
		short := binary.AppendUvarint(nil, w.bits)
		for _, typ := range varints {
			everywhere(t, typ, short, w.of(typ))
			if len(short) < 10 {
				everywhere(t, typ, longer(short, len(short)+1), w.of(typ))
				everywhere(t, typ, longer(short, 10), w.of(typ))
			}
		}
	}
}

func TestFixedNumbers(t *testing.T) { // P13, P1101: numbers of four and of eight bytes
	for _, u := range []uint32{0, 1, 0x01020304, 0x3f800000, 1<<31 - 1, 1 << 31, 1<<32 - 1} {
		b := binary.LittleEndian.AppendUint32(nil, u)
		everywhere(t, api.TFixed32, b, int(u))
		everywhere(t, api.TFloat, b, int(u)) // -0 has other bits than 0
		everywhere(t, api.TSfixed32, b, int(int32(u)))
	}
	for _, u := range []uint64{0, 1, 0x0102030405060708, 0x3ff0000000000000, 1<<63 - 1, 1 << 63, 1<<64 - 1} {
		b := binary.LittleEndian.AppendUint64(nil, u)
		for _, typ := range []int{api.TFixed64, api.TSfixed64, api.TDouble} {
			everywhere(t, typ, b, int(u))
		}
	}
}

func TestVarintsOfAllLengths(t *testing.T) { // P13, P1102: varints of one to ten bytes, of more, over, without their end: as a number, a length, a tag, in a block, passed over
	s := wideSchema()
	for size := 1; size <= 12; size++ {
		b := longer(row("05"), size)
		open := bytes.Repeat(row("85"), size)
		lone, inBlock := rows(tag(single+api.TInt64, 0), b), record(repeated+api.TInt64, b)
		length := rows(row("7a"), b, []byte("abcde"))
		number := rows(longer(tag(single+api.TInt64, 0), size), row("05"))
		over := rows(tag(unknown, 0), b)
		if size > 10 {
			refuses(t, s, "w.W", lone, 1, api.ErrOver)
			refuses(t, s, "w.W", inBlock, 3, api.ErrOver)
			refuses(t, s, "w.W", length, 1, api.ErrOver)
			refuses(t, s, "w.W", number, 0, api.ErrOver)
			refuses(t, s, "w.W", over, 2, api.ErrOver)
		} else {
			reads(t, s, "w.W", lone, one(api.TInt64, num(5)))
			reads(t, s, "w.W", inBlock, one(repeated+api.TInt64, list(num(5))))
			reads(t, s, "w.W", length, one(api.TBytes, text("abcde")))
			reads(t, s, "w.W", number, one(api.TInt64, num(5)))
			reads(t, s, "w.W", over, msg(), skip(0, unknown, 0))
		}
		want := api.ErrEnds
		if size >= 10 {
			want = api.ErrOver
		}
		refuses(t, s, "w.W", rows(tag(single+api.TInt64, 0), open), 1, want)
		refuses(t, s, "w.W", record(repeated+api.TInt64, open), 3, want)
		refuses(t, s, "w.W", rows(row("7a"), open), 1, want)
		refuses(t, s, "w.W", open, 0, want)
		refuses(t, s, "w.W", rows(tag(unknown, 0), open), 2, want)
		refuses(t, s, "w.W", rows(tag(unknown, 3), open), 2, want)
	}
	for last := range 256 { // the tenth byte
		b := append(bytes.Repeat(row("80"), 9), byte(last))
		if last > 1 {
			refuses(t, s, "w.W", rows(tag(single+api.TInt64, 0), b), 1, api.ErrOver)
			refuses(t, s, "w.W", rows(tag(single+api.TInt64, 0), b, row("00")), 1, api.ErrOver)
			continue
		}
		reads(t, s, "w.W", rows(tag(optional+api.TInt64, 0), b), one(optional+api.TInt64, num(last*math.MinInt)))
	}
}

func TestLongerEverywhere(t *testing.T) { // P13: tags and lengths that are longer than need be, in messages, pairs, blocks, groups
	s := wideSchema()
	for _, size := range []int{3, 5, 10} {
		l := func(n int) []byte { return longer(varint(n), size) }
		g := func(number, kind int) []byte { return longer(tag(number, kind), size) }
		text1 := rows(g(api.TString, 2), l(1), []byte("x"))
		reads(t, s, "w.W", text1, one(api.TString, text("x")))
		reads(t, s, "w.W", rows(g(api.TMessage, 2), l(len(text1)), text1), one(api.TMessage, one(api.TString, text("x"))))
		reads(t, s, "w.W", rows(g(repeated+api.TBool, 2), l(size), l(7)), one(repeated+api.TBool, list(num(1))))
		p := rows(g(2, 0), l(3), g(1, 2), l(1), []byte("k"))
		reads(t, s, "w.W", rows(g(mapped+api.TInt32, 2), l(len(p)), p), one(mapped+api.TInt32, dict(kv("k", num(3)))))
		reads(t, s, "w.W", rows(g(unknown, 3), text1, g(unknown, 4), row("18 01")), one(3, num(1)), skip(0, unknown, 3))
	}
}

func TestManyNumbers(t *testing.T) { // P1101: fields of the numbers at the bounds
	for _, n := range []int{1, 15, 16, 2047, 2048, 18999, 20000, 262143, 262144, 33554431, 33554432, api.MaxNumber} {
		s := load(t, fmt.Sprintf(`syntax = "proto3"; message M { int32 a = %d; }`, n))
		reads(t, s, "M", rows(tag(n, 0), row("01")), one(n, num(1)))
		for _, other := range []int{n - 1, n + 1, n / 2, n * 2, n + 1<<29, n + 1<<32, n + 1<<56} {
			b := rows(tag(other, 0), row("01"))
			if other < 1 || other > api.MaxNumber {
				refuses(t, s, "M", b, 0, api.ErrNumber)
			} else {
				reads(t, s, "M", b, msg(), skip(0, other, 0))
			}
		}
	}
}
