package encode_test

import (
	"encoding/binary"
	"fmt"
	"math"
	"slices"
	"strings"
	"testing"

	"sigil/api"
	"sigil/encode"
)

// bare is a number and how it is written without a tag.
type bare struct {
	n    int
	want string
}

// bares are numbers of each numeric type, in the order of keys: those at its bounds, the zero, and such that are written with as many bytes as there are.
func bares() map[int][]bare {
	word := []bare{{0, "00 00 00 00"}, {1, "01 00 00 00"}, {0x01020304, "04 03 02 01"}, {math.MaxInt32, "ff ff ff 7f"}, {1 << 31, "00 00 00 80"}, {math.MaxUint32, "ff ff ff ff"}}
	signed := []bare{{math.MinInt32, "00 00 00 80"}, {-2, "fe ff ff ff"}, {-1, "ff ff ff ff"}, {0, "00 00 00 00"}, {1, "01 00 00 00"}, {math.MaxInt32, "ff ff ff 7f"}}
	least, minus := bare{math.MinInt, "00 00 00 00 00 00 00 80"}, bare{-1, "ff ff ff ff ff ff ff ff"}
	rest := []bare{{0, "00 00 00 00 00 00 00 00"}, {1, "01 00 00 00 00 00 00 00"}, {0x0102030405060708, "08 07 06 05 04 03 02 01"}, {math.MaxInt, "ff ff ff ff ff ff ff 7f"}}
	negative := []bare{{math.MinInt32, "80 80 80 80 f8 ff ff ff ff 01"}, {-300, "d4 fd ff ff ff ff ff ff ff 01"}, {-1, "ff ff ff ff ff ff ff ff ff 01"}}
	positive := []bare{{0, "00"}, {1, "01"}, {127, "7f"}, {128, "80 01"}, {16383, "ff 7f"}, {16384, "80 80 01"}, {1<<21 - 1, "ff ff 7f"}, {1 << 21, "80 80 80 01"}, {1 << 28, "80 80 80 80 01"}, {math.MaxInt32, "ff ff ff ff 07"}}
	more := []bare{{math.MaxUint32, "ff ff ff ff 0f"}}
	huge := []bare{{1 << 35, "80 80 80 80 80 01"}, {1 << 42, "80 80 80 80 80 80 01"}, {1 << 49, "80 80 80 80 80 80 80 01"}, {1 << 56, "80 80 80 80 80 80 80 80 01"}, {math.MaxInt, "ff ff ff ff ff ff ff ff 7f"}}
	lowest := bare{math.MinInt, "80 80 80 80 80 80 80 80 80 01"}
	zig := []bare{{math.MinInt32, "ff ff ff ff 0f"}, {-65, "81 01"}, {-64, "7f"}, {-1, "01"}, {0, "00"}, {1, "02"}, {63, "7e"}, {64, "80 01"}, {math.MaxInt32, "fe ff ff ff 0f"}}
	zigs := []bare{{math.MinInt, "ff ff ff ff ff ff ff ff ff 01"}, {math.MinInt + 1, "fd ff ff ff ff ff ff ff ff 01"}, {math.MinInt32 - 1, "81 80 80 80 10"}}
	zags := []bare{{math.MaxInt32 + 1, "80 80 80 80 10"}, {math.MaxInt, "fe ff ff ff ff ff ff ff ff 01"}}
	return map[int][]bare{
		api.TDouble: append(append([]bare{least, minus}, rest...), bare{0x3ff0000000000000, "00 00 00 00 00 00 f0 3f"}), api.TFloat: append(word, bare{0x3f800000, "00 00 80 3f"}),
		api.TInt32: slices.Concat(negative, positive), api.TEnum: slices.Concat(negative, positive),
		api.TInt64:  slices.Concat([]bare{lowest}, negative, positive, more, huge),
		api.TUint32: slices.Concat(positive, more), api.TUint64: slices.Concat(positive, more, huge, []bare{lowest}, negative),
		api.TSint32: zig, api.TSint64: slices.Concat(zigs, zig, zags),
		api.TFixed32: word, api.TSfixed32: signed,
		api.TFixed64: slices.Concat(rest, []bare{least, minus}), api.TSfixed64: slices.Concat([]bare{least, minus}, rest),
		api.TBool: {{0, "00"}, {1, "01"}},
	}
}

// kindOf is the wire kind of a type.
func kindOf(typ int) int {
	switch typ {
	case api.TFixed32, api.TSfixed32, api.TFloat:
		return 5
	case api.TFixed64, api.TSfixed64, api.TDouble:
		return 1
	case api.TString, api.TBytes, api.TMessage:
		return 2
	}
	return 0
}

// tag and length are varints, written by the library.
func tag(number, kind int) []byte { return binary.AppendUvarint(nil, uint64(number*8+kind)) }

func length(n int) []byte { return binary.AppendUvarint(nil, uint64(n)) }

// record is a record of kind 2.
func record(number int, content ...[]byte) []byte {
	all := slices.Concat(content...)
	return slices.Concat(tag(number, 2), length(len(all)), all)
}

func TestNumbers(t *testing.T) { // P903: numbers at the bounds of each type, with every card, packed and in pairs
	s := wideSchema()
	for typ, l := range bares() {
		var block []byte
		var values []api.Value
		for _, c := range l {
			b := row(c.want)
			block = append(block, b...)
			values = append(values, num(c.n))
			if c.n != 0 {
				fresh(t, s, "w.W", one(single+typ, num(c.n)), tag(single+typ, kindOf(typ)), b)
			}
			fresh(t, s, "w.W", one(optional+typ, num(c.n)), tag(optional+typ, kindOf(typ)), b)
			fresh(t, s, "w.W", one(member+typ, num(c.n)), tag(member+typ, kindOf(typ)), b)
			fresh(t, s, "w.W", one(repeated+typ, list(num(c.n))), record(repeated+typ, b))
			fresh(t, s, "w.W", one(mapped+typ, dict(kv("", num(c.n)))), record(mapped+typ, row("0a 00"), tag(2, kindOf(typ)), b))
			if slices.Contains(keyTypes, typ) {
				fresh(t, s, "w.W", one(keyed+typ, dict(pair(num(c.n), num(0)))), record(keyed+typ, tag(1, kindOf(typ)), b, row("10 00")))
			}
		}
		fresh(t, s, "w.W", one(repeated+typ, list(values...)), record(repeated+typ, block))
		slices.Reverse(values)
		backward := list(append(values, values...)...)
		if b, x := encode.New(s).Encode("w.W", one(repeated+typ, backward)); x != api.OK || len(b) != len(record(repeated+typ, block, block)) {
			t.Errorf("P903: a list of type %d: %s, %v", typ, some(b), x)
		}
	}
}

func TestListsKeepTheirOrder(t *testing.T) { // P12: the values of a list in their order, the same ones too
	s := load(t, small)
	fresh(t, s, "p.M", one(3, list(num(2), num(2), num(-1), num(0), num(1))), row("1a 05 04 04 01 00 02"))
	w := wideSchema()
	fresh(t, w, "w.W", one(repeated+api.TString, list(text("b"), text(""), text("a"), text("b"))), row("b2 03 01 62 b2 03 00 b2 03 01 61 b2 03 01 62"))
	fresh(t, w, "w.W", one(listV, list(one(1, num(-1)), msg(), one(1, num(1)))), row("ca 0c 02 08 01 ca 0c 00 ca 0c 02 08 02"))
}

func TestKeysOfEveryType(t *testing.T) { // P903, P11: maps of many pairs, with every type of key
	s := wideSchema()
	for typ, l := range bares() {
		if !slices.Contains(keyTypes, typ) {
			continue
		}
		v := dict()
		var want []byte
		for i, c := range l {
			v.List = append(v.List, pair(num(c.n), num(i)))
			want = append(want, record(keyed+typ, tag(1, kindOf(typ)), row(c.want), tag(2, 0), length(i))...)
		}
		fresh(t, s, "w.W", one(keyed+typ, v), want)
		slices.Reverse(v.List)
		refused(t, encode.New(s), "w.W", one(keyed+typ, v), keyed+typ, api.ErrNormal, api.ErrNormal)
	}
	v, want := dict(), []byte(nil)
	for i, key := range []string{"", "\x00", "A", "a", "a\x00", "aa", "b", "é", "\U0010ffff"} {
		v.List = append(v.List, kv(key, num(-i)))
		want = append(want, record(keyed+api.TString, record(1, []byte(key)), tag(2, 0), binary.AppendUvarint(nil, uint64(-i)))...)
	}
	fresh(t, s, "w.W", one(keyed+api.TString, v), want)
}

func TestTexts(t *testing.T) { // P903: texts with every card, of all lengths of their length
	s := wideSchema()
	for _, typ := range []int{api.TString, api.TBytes} {
		for _, n := range []int{0, 1, 2, 127, 128, 129, 16383, 16384, 70000} {
			x := text(strings.Repeat("x", n))
			if n > 0 {
				fresh(t, s, "w.W", one(single+typ, x), record(single+typ, []byte(x.Text)))
			}
			fresh(t, s, "w.W", one(optional+typ, x), record(optional+typ, []byte(x.Text)))
			fresh(t, s, "w.W", one(member+typ, x), record(member+typ, []byte(x.Text)))
			fresh(t, s, "w.W", one(repeated+typ, list(x, text("y"), x)), record(repeated+typ, []byte(x.Text)), record(repeated+typ, []byte("y")), record(repeated+typ, []byte(x.Text)))
			fresh(t, s, "w.W", one(mapped+typ, dict(pair(x, x), kv("z", text("")))), record(mapped+typ, record(1, []byte(x.Text)), record(2, []byte(x.Text))), record(mapped+typ, row("0a 01 7a 12 00")))
			fresh(t, s, "w.W", one(keyed+api.TString, dict(pair(x, num(1)))), record(keyed+api.TString, record(1, []byte(x.Text)), row("10 01")))
		}
	}
	fresh(t, s, "w.W", one(api.TString, text("é\U0010ffff\x00")), row("72 07 c3 a9 f4 8f bf bf 00"))
	fresh(t, s, "w.W", one(api.TBytes, text("\xff\x00\xc3")), row("7a 03 ff 00 c3"))
}

func TestMessages(t *testing.T) { // P903: messages with every card, of all lengths of their length
	s := wideSchema()
	const typ = api.TMessage
	for _, n := range []int{0, 1, 125, 126, 127, 128, 16380, 16381, 16382, 70000} {
		var in api.Value = msg()
		var b []byte
		if n > 0 {
			in = one(api.TBytes, text(strings.Repeat("x", n)))
			b = record(api.TBytes, []byte(strings.Repeat("x", n)))
		}
		for _, number := range []int{single + typ, optional + typ, member + typ} {
			fresh(t, s, "w.W", one(number, in), record(number, b))
			fresh(t, s, "w.W", one(number, one(number, in)), record(number, record(number, b)))
		}
		fresh(t, s, "w.W", one(repeated+typ, list(in, msg(), in)), record(repeated+typ, b), record(repeated+typ), record(repeated+typ, b))
		fresh(t, s, "w.W", one(mapped+typ, dict(kv("", in), kv("k", in))), record(mapped+typ, row("0a 00"), record(2, b)), record(mapped+typ, row("0a 01 6b"), record(2, b)))
	}
}

func TestTags(t *testing.T) { // P12: tags of all lengths, of each wire kind
	for _, n := range []int{1, 11, 15, 16, 2043, 2047, 2048, 262139, 262143, 262144, 33554427, 33554431, 33554432, 536870907} {
		s := load(t, fmt.Sprintf(`syntax = "proto3"; message M { optional int32 a = %d; optional fixed32 b = %d; optional double c = %d; optional M d = %d; map<int32, int32> e = %d; }`, n, n+1, n+2, n+3, n+4))
		all, want := msg(), []byte(nil)
		for i, c := range []struct {
			v api.Value
			b []byte
		}{
			{num(0), slices.Concat(tag(n, 0), row("00"))}, {num(1), slices.Concat(tag(n+1, 5), row("01 00 00 00"))}, {num(1), slices.Concat(tag(n+2, 1), row("01 00 00 00 00 00 00 00"))},
			{msg(), record(n + 3)}, {dict(pair(num(0), num(0))), record(n+4, row("08 00 10 00"))},
		} {
			fresh(t, s, "M", one(n+i, c.v), c.b)
			all.Fields = append(all.Fields, at(n+i, c.v))
			want = append(want, c.b...)
		}
		fresh(t, s, "M", all, want)
	}
	fresh(t, wideSchema(), "w.W", one(far, num(1)), row("f8 ff ff ff 0f 01"))
}

func TestZerosThatAreThere(t *testing.T) { // P12: optional fields, members and what is in lists and pairs are written, zeros too
	s := load(t, `syntax = "proto3"; enum E { Z = 0; } message M { optional int32 a = 1; optional string b = 2; optional M c = 3; oneof o { E d = 4; bytes e = 5; M f = 6; float g = 7; } M h = 8; repeated double i = 9; repeated bytes j = 10; map<sint32, E> k = 11; map<fixed64, float> l = 12; }`)
	e := encode.New(s)
	for _, c := range []struct {
		v    api.Value
		want string
	}{
		{msg(at(1, num(0)), at(2, text("")), at(3, msg()), at(4, num(0)), at(8, msg())), "08 00 12 00 1a 00 20 00 42 00"},
		{one(5, text("")), "2a 00"}, {one(6, msg()), "32 00"}, {one(7, num(0)), "3d 00 00 00 00"}, {one(7, num(1<<31)), "3d 00 00 00 80"},
		{one(9, list(num(0), num(math.MinInt))), "4a 10 00 00 00 00 00 00 00 00 00 00 00 00 00 00 00 80"},
		{one(10, list(text(""), text(""))), "52 00 52 00"},
		{one(11, dict(pair(num(0), num(0)))), "5a 04 08 00 10 00"},
		{one(12, dict(pair(num(0), num(0)), pair(num(-1), num(0)))), "62 0e 09 00 00 00 00 00 00 00 00 15 00 00 00 00 62 0e 09 ff ff ff ff ff ff ff ff 15 00 00 00 00"},
	} {
		written(t, s, e, "M", c.v, row(c.want))
	}
}

func TestManyFields(t *testing.T) { // P903, P905: a message of as many fields as there may be, all there
	var b strings.Builder
	v, want := msg(), []byte(nil)
	for i := range api.MaxFields {
		fmt.Fprintf(&b, "int32 f%d = %d; ", api.MaxFields-i, api.MaxFields-i)
		v.Fields = append(v.Fields, at(i+1, num(i+1)))
		want = slices.Concat(want, tag(i+1, 0), length(i+1))
	}
	fresh(t, load(t, `syntax = "proto3"; message M { `+b.String()+`}`), "M", v, want)
}
