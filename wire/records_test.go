package wire_test

import (
	"bytes"
	"fmt"
	"math"
	"math/rand"
	"slices"
	"strings"
	"testing"

	"sigil/api"
	"sigil/wire"
)

type records = []api.Record

func varint(number, v int) api.Record { return api.Record{Number: number, Kind: api.WVarint, Num: v} }

func text(number int, s string) api.Record {
	return api.Record{Number: number, Kind: api.WText, Text: s}
}

func group(number int, l ...api.Record) api.Record {
	return api.Record{Number: number, Kind: api.WStart, Inner: l}
}

// nested is a record within so many groups.
func nested(depth int, r api.Record) api.Record {
	for range depth {
		r = group(1, r)
	}
	return r
}

func TestJoin(t *testing.T) { // P207
	for _, c := range []struct {
		l    records
		want string
	}{
		{nil, ""}, {records{}, ""},
		{records{varint(1, 150), text(2, "hi")}, "08 96 01 12 02 68 69"},
		{records{varint(1, 0)}, "08 00"}, {records{varint(1, -1)}, "08 ff ff ff ff ff ff ff ff ff 01"}, {records{varint(1, math.MinInt)}, "08 80 80 80 80 80 80 80 80 80 01"},
		{records{varint(536870911, 1)}, "f8 ff ff ff 0f 01"},
		{records{{Number: 1, Kind: api.WFixed64, Num: -2}}, "09 fe ff ff ff ff ff ff ff"}, {records{{Number: 1, Kind: api.WFixed64, Num: 1}}, "09 01 00 00 00 00 00 00 00"},
		{records{{Number: 1, Kind: api.WFixed32, Num: 0}}, "0d 00 00 00 00"}, {records{{Number: 1, Kind: api.WFixed32, Num: math.MaxUint32}}, "0d ff ff ff ff"},
		{records{text(1, "")}, "0a 00"}, {records{text(1, "\xff\xfe")}, "0a 02 ff fe"},
		{records{group(1)}, "0b 0c"}, {records{group(1, records{}...)}, "0b 0c"}, {records{group(16, varint(2, 1))}, "83 01 10 01 84 01"},
		{records{group(1, group(2, text(3, "x")), varint(4, 5)), varint(6, 7)}, "0b 13 1a 01 78 14 20 05 0c 30 07"},
		{records{varint(3, 1), varint(1, 2), varint(3, 1)}, "18 01 08 02 18 01"},
	} {
		if b, e := wire.Join(c.l); e != api.OK || !bytes.Equal(b, unhex(c.want)) {
			t.Errorf("P207: Join(%+v) = %x, %v, want %s", c.l, b, e, c.want)
		}
	}
}

func TestJoinWrong(t *testing.T) { // P207
	inner := records{varint(1, 1)}
	for _, c := range []struct {
		r api.Record
		e api.Errno
	}{
		{varint(0, 0), api.ErrNumber}, {varint(-1, 0), api.ErrNumber}, {varint(536870912, 0), api.ErrNumber}, {varint(math.MinInt, 0), api.ErrNumber}, {varint(math.MaxInt, 0), api.ErrNumber}, {varint(1<<61+1, 0), api.ErrNumber},
		{api.Record{Number: 1, Kind: -1}, api.ErrKind}, {api.Record{Number: 1, Kind: api.WEnd}, api.ErrKind}, {api.Record{Number: 1, Kind: 6}, api.ErrKind}, {api.Record{Number: 1, Kind: 7}, api.ErrKind}, {api.Record{Number: 1, Kind: 8}, api.ErrKind},
		{api.Record{Number: 1, Kind: math.MinInt}, api.ErrKind}, {api.Record{Number: 1, Kind: math.MaxInt}, api.ErrKind},
		{api.Record{Number: 1, Kind: 0, Text: "x"}, api.ErrArg}, {api.Record{Number: 1, Kind: 0, Inner: inner}, api.ErrArg},
		{api.Record{Number: 1, Kind: 1, Text: "x"}, api.ErrArg}, {api.Record{Number: 1, Kind: 1, Inner: inner}, api.ErrArg},
		{api.Record{Number: 1, Kind: 2, Num: 1}, api.ErrArg}, {api.Record{Number: 1, Kind: 2, Num: -1}, api.ErrArg}, {api.Record{Number: 1, Kind: 2, Text: "x", Inner: inner}, api.ErrArg},
		{api.Record{Number: 1, Kind: 3, Num: 1}, api.ErrArg}, {api.Record{Number: 1, Kind: 3, Text: "x"}, api.ErrArg},
		{api.Record{Number: 1, Kind: 5, Text: "x"}, api.ErrArg}, {api.Record{Number: 1, Kind: 5, Inner: inner}, api.ErrArg},
		{api.Record{Number: 1, Kind: 5, Num: -1}, api.ErrArg}, {api.Record{Number: 1, Kind: 5, Num: math.MaxUint32 + 1}, api.ErrArg}, {api.Record{Number: 1, Kind: 5, Num: math.MinInt}, api.ErrArg},
		// Of one record the number, then the kind, then the rest.
		{api.Record{Number: 0, Kind: 9, Num: 1, Text: "x"}, api.ErrNumber}, {api.Record{Number: 1, Kind: 9, Num: 1, Text: "x", Inner: inner}, api.ErrKind}, {api.Record{Number: 1, Kind: 4, Text: "x"}, api.ErrKind},
	} {
		for where, l := range map[string]records{
			"alone": {c.r}, "behind others": {varint(1, 1), group(2), c.r}, "in a group": {group(1, varint(1, 1), c.r)}, "63 deep": {nested(62, c.r)},
			"ahead of another": {c.r, {Number: 1, Kind: 4}, {Number: 0}},
		} {
			if b, e := wire.Join(l); e != c.e || len(b) > 0 {
				t.Errorf("P207: Join of %+v, %s: %x, %v, want %v", c.r, where, b, e, c.e)
			}
		}
	}
	for _, r := range []api.Record{{Number: 1, Inner: records{}}, {Number: 1, Kind: 2, Inner: records{}}} {
		if _, e := wire.Join(records{r}); e != api.OK {
			t.Errorf("P2: Join of %+v with an empty Inner: %v", r, e)
		}
	}
}

func TestJoinFirstWrong(t *testing.T) { // P207
	number, kind, arg := varint(0, 0), api.Record{Number: 1, Kind: 9}, api.Record{Number: 1, Kind: 2, Num: 1}
	for _, c := range []struct {
		l records
		e api.Errno
	}{
		{records{number, kind, arg}, api.ErrNumber}, {records{kind, number, arg}, api.ErrKind}, {records{arg, number, kind}, api.ErrArg},
		{records{group(1, kind), number}, api.ErrKind}, {records{group(1, varint(1, 1)), number}, api.ErrNumber},
		{records{group(1, group(2, arg), kind), number}, api.ErrArg},
		{records{{Number: 0, Kind: 3, Inner: records{kind}}}, api.ErrNumber},
		{records{{Number: 1, Kind: 3, Num: 1, Inner: records{number}}}, api.ErrArg},
		{records{{Number: 1, Kind: 0, Inner: records{number}}}, api.ErrArg},
		{records{{Number: 1, Kind: 9, Inner: records{number}}}, api.ErrKind},
		{records{{Number: 1, Kind: 3, Inner: records{{Number: 0, Kind: 9}}}}, api.ErrNumber},
	} {
		if b, e := wire.Join(c.l); e != c.e || len(b) > 0 {
			t.Errorf("P207: Join(%+v) = %x, %v, want %v", c.l, b, e, c.e)
		}
	}
}

func TestJoinDeep(t *testing.T) { // P207
	for _, c := range []struct {
		what string
		r    api.Record
		e    api.Errno
	}{
		{"62 groups around one", nested(62, group(1)), api.OK},
		{"63 groups around one", nested(63, group(1)), api.ErrDepth},
		{"63 groups around a number", nested(63, varint(1, 1)), api.OK},
		{"64 groups around a number", nested(64, varint(1, 1)), api.ErrDepth},
		{"5000 groups", nested(5000, varint(1, 1)), api.ErrDepth},
		{"63 groups around a number with Inner", nested(63, api.Record{Number: 1, Inner: records{varint(1, 1)}}), api.ErrDepth},
		{"62 groups around a number with Inner", nested(62, api.Record{Number: 1, Inner: records{varint(1, 1)}}), api.ErrArg},
		{"63 groups around a kind that is none, with Inner", nested(63, api.Record{Number: 1, Kind: -9, Inner: records{varint(1, 1)}}), api.ErrDepth},
		{"63 groups around what has no right number", nested(63, varint(0, 1)), api.ErrNumber},
		{"64 groups around what has no right number", nested(64, varint(0, 1)), api.ErrDepth},
	} {
		// A fault further left does not come ahead of the depth.
		for _, l := range []records{{c.r}, {group(1, varint(1, 1)), c.r}, {c.r, group(2)}, {group(1), c.r, varint(1, 1)}} {
			if _, e := wire.Join(l); e != c.e {
				t.Errorf("P207: Join of %s: %v, want %v", c.what, e, c.e)
			}
		}
		if c.e == api.ErrDepth {
			if _, e := wire.Join(records{varint(0, 0), c.r}); e != api.ErrDepth {
				t.Errorf("P207: Join of a wrong record and %s: %v, want ErrDepth", c.what, e)
			}
		}
	}
}

func TestJoinMany(t *testing.T) { // P207, P1
	many := func(n int, r api.Record) records { return slices.Repeat(records{r}, n) }
	wide := records{varint(1, 1)}
	for range 60 {
		wide = records{group(1, wide...), group(1, wide...)} // shared: it hangs there 2^60 times
	}
	ring := make(records, 1)
	ring[0] = api.Record{Number: 1, Kind: api.WStart, Inner: ring}
	deep := nested(1<<16-1, varint(1, 1))
	for _, c := range []struct {
		what string
		l    records
		e    api.Errno
	}{
		{"as many as may be", many(api.MaxMessage, varint(1, 1)), api.ErrSize},
		{"one more", many(api.MaxMessage+1, varint(1, 1)), api.ErrLong},
		{"one more, all wrong", many(api.MaxMessage+1, varint(0, 1)), api.ErrLong},
		{"as many, all wrong", many(api.MaxMessage, varint(0, 1)), api.ErrNumber},
		{"as many, a group counts", records{group(1, many(api.MaxMessage-1, varint(1, 1))...)}, api.ErrSize},
		{"one more in a group", records{group(1, many(api.MaxMessage, varint(1, 1))...)}, api.ErrLong},
		{"one more, in two groups", records{group(1, many(api.MaxMessage/2, varint(1, 1))...), group(1, many(api.MaxMessage/2-1, varint(1, 1))...)}, api.ErrLong},
		{"as many in a number's Inner", records{{Number: 1, Inner: many(api.MaxMessage-1, varint(1, 1))}}, api.ErrArg},
		{"one more in a number's Inner", records{{Number: 1, Inner: many(api.MaxMessage, varint(1, 1))}}, api.ErrLong},
		{"one more in the Inner of no kind", records{{Number: 0, Kind: 77, Inner: many(api.MaxMessage, varint(1, 1))}}, api.ErrLong},
		{"one more and too deep", records{nested(64, group(1, many(api.MaxMessage, varint(1, 1))...))}, api.ErrLong},
		{"2^60 of them", wide, api.ErrLong},
		{"a list that holds itself", ring, api.ErrLong},
		{"2^16 in one another", records{deep}, api.ErrDepth},
	} {
		if b, e := wire.Join(c.l); e != c.e || len(b) > 0 {
			t.Errorf("P207: Join of %s: %d bytes, %v, want %v", c.what, len(b), e, c.e)
		}
	}
}

func TestJoinSize(t *testing.T) { // P207
	long := func(n int) string { return strings.Repeat("x", n) }
	for _, c := range []struct {
		what string
		l    records
	}{
		{"a text", records{text(1, long(api.MaxMessage-4))}},
		{"a text of a number with a longer tag", records{text(16, long(api.MaxMessage-5))}},
		{"a text in a group", records{group(1, text(1, long(api.MaxMessage-6)))}},
		{"a text in a group with longer tags", records{group(536870911, text(1, long(api.MaxMessage-14)))}},
		{"a negative varint and a text", records{varint(1, -1), text(1, long(api.MaxMessage-15))}},
		{"fixed numbers and a text", records{{Number: 1, Kind: 1}, {Number: 1, Kind: 5}, text(1, long(api.MaxMessage-18))}},
		{"varints", slices.Repeat(records{varint(1, 127)}, api.MaxMessage/2)},
		{"zeros", slices.Repeat(records{varint(1, 0)}, api.MaxMessage/2)},
		{"empty texts", slices.Repeat(records{text(1, "")}, api.MaxMessage/2)},
		{"groups", slices.Repeat(records{group(1)}, api.MaxMessage/2)},
		{"fixed numbers", append(slices.Repeat(records{{Number: 2047, Kind: 1, Num: 5}}, api.MaxMessage/10), varint(1, 1<<28))},
	} {
		b, e := wire.Join(c.l)
		if e != api.OK || len(b) != api.MaxMessage {
			t.Errorf("P207: Join of %s: %d bytes, %v, want as many as may be", c.what, len(b), e)
		}
		for strict := range map[bool]int{true: 0, false: 0} {
			if l, at, e := wire.Split(b, strict); e != api.OK || at != 0 || !same(l, c.l) {
				t.Errorf("P209: Split of %s, joined: %d records, %d, %v", c.what, len(l), at, e)
			}
		}
		last := &c.l[len(c.l)-1]
		switch more := *last; {
		case more.Kind == api.WText:
			last.Text += "x"
		case more.Kind == api.WStart && len(more.Inner) > 0:
			last.Inner[0].Text += "x"
		default:
			last.Number = 16
		}
		if b, e := wire.Join(c.l); e != api.ErrSize || len(b) > 0 {
			t.Errorf("P207: Join of %s, one byte more: %d bytes, %v, want ErrSize", c.what, len(b), e)
		}
	}
	huge := text(1, long(1<<27))
	if b, e := wire.Join(slices.Repeat(records{huge}, 1<<10)); e != api.ErrSize || len(b) > 0 {
		t.Errorf("P207: Join of huge texts: %d bytes, %v, want ErrSize", len(b), e)
	}
	if _, e := wire.Join(records{huge, varint(0, 1)}); e != api.ErrNumber {
		t.Errorf("P207: Join of a huge text and a wrong record: %v, want ErrNumber", e)
	}
}

func TestSplit(t *testing.T) { // P208
	nine, nines := strings.Repeat("ff", 9), strings.Repeat("80", 9)
	const both, strictly, loosely = 0, 1, 2
	for _, c := range []struct {
		b    string
		how  int
		want records
		at   int
		e    api.Errno
	}{
		{"", both, nil, 0, 0},
		{"08 96 01 12 02 68 69", both, records{varint(1, 150), text(2, "hi")}, 0, 0},
		{"0d 01 00 00 00 09 01 00 00 00 00 00 00 ff", both, records{{Number: 1, Kind: 5, Num: 1}, {Number: 1, Kind: 1, Num: -72057594037927935}}, 0, 0},
		{"0d ff ff ff ff 09 ff ff ff ff ff ff ff ff", both, records{{Number: 1, Kind: 5, Num: math.MaxUint32}, {Number: 1, Kind: 1, Num: -1}}, 0, 0},
		{"0a 00 0a 02 ff 00", both, records{text(1, ""), text(1, "\xff\x00")}, 0, 0},
		// varints
		{"08 96 81 00", loosely, records{varint(1, 150)}, 0, 0}, {"08 96 81 00", strictly, nil, 1, api.ErrLonger},
		{"88 80 00 01", loosely, records{varint(1, 1)}, 0, 0}, {"88 80 00 01", strictly, nil, 0, api.ErrLonger},
		{"0a 81 00 61", loosely, records{text(1, "a")}, 0, 0}, {"0a 81 00 61", strictly, nil, 1, api.ErrLonger},
		{"0b 8c 00", loosely, records{group(1)}, 0, 0}, {"0b 8c 00", strictly, nil, 1, api.ErrLonger},
		{"08 80 00", loosely, records{varint(1, 0)}, 0, 0}, {"08 80 00", strictly, nil, 1, api.ErrLonger},
		{"08" + nines + "00", loosely, records{varint(1, 0)}, 0, 0}, {"08" + nines + "00", strictly, nil, 1, api.ErrLonger},
		{"08" + nines + "01", both, records{varint(1, math.MinInt)}, 0, 0}, {"08" + nine + "01", both, records{varint(1, -1)}, 0, 0}, {"08" + nine + "00", loosely, records{varint(1, math.MaxInt)}, 0, 0},
		{"08" + nine + "ff", both, nil, 1, api.ErrOver}, {"08" + nine + "02", both, nil, 1, api.ErrOver}, {"08" + nine + "80", both, nil, 1, api.ErrOver}, {"08" + nine + "81", both, nil, 1, api.ErrOver}, {"08" + nine + "7f", both, nil, 1, api.ErrOver},
		{"08" + nines + "80 00", both, nil, 1, api.ErrOver}, {"08" + nine + "82 01", both, nil, 1, api.ErrOver}, {"08" + nine, both, nil, 1, api.ErrEnds}, {"08" + nine[:16], both, nil, 1, api.ErrEnds}, {"08 80", both, nil, 1, api.ErrEnds},
		{"80", both, nil, 0, api.ErrEnds}, {"08", both, nil, 1, api.ErrEnds}, {"08 01 88", both, nil, 2, api.ErrEnds}, {nine + "02", both, nil, 0, api.ErrOver}, {"0a" + nine + "02", both, nil, 1, api.ErrOver}, {"0a", both, nil, 1, api.ErrEnds}, {"0a 80", both, nil, 1, api.ErrEnds},
		// tags
		{"00 01", both, nil, 0, api.ErrNumber}, {"07", both, nil, 0, api.ErrNumber}, {"04", both, nil, 0, api.ErrNumber}, {"80 80 80 80 10 00", both, nil, 0, api.ErrNumber}, {"87 80 80 80 10", both, nil, 0, api.ErrNumber}, {nine + "01", both, nil, 0, api.ErrNumber},
		{nines + "01", both, nil, 0, api.ErrNumber}, {"80 00", loosely, nil, 0, api.ErrNumber}, {"80 00", strictly, nil, 0, api.ErrLonger}, {"f8 ff ff ff 0f 00", both, records{varint(536870911, 0)}, 0, 0},
		{"0e 00", both, nil, 0, api.ErrKind}, {"0f 00", both, nil, 0, api.ErrKind}, {"8f 00", loosely, nil, 0, api.ErrKind}, {"8f 00", strictly, nil, 0, api.ErrLonger}, {"08 01 16", both, nil, 2, api.ErrKind}, {"ff ff ff ff 0f", both, nil, 0, api.ErrKind},
		// groups
		{"0c", both, nil, 0, api.ErrGroup}, {"08 01 0c", both, nil, 2, api.ErrGroup}, {"0b 14", both, nil, 1, api.ErrGroup}, {"0b 0c 0c", both, nil, 2, api.ErrGroup}, {"0b 13 0c 14", both, nil, 2, api.ErrGroup}, {"8c 00", strictly, nil, 0, api.ErrLonger},
		{"0b", both, nil, 1, api.ErrEnds}, {"0b 13 14", both, nil, 3, api.ErrEnds}, {"0b 08 0c", both, nil, 3, api.ErrEnds},
		{"0b 10 01 0c", both, records{group(1, varint(2, 1))}, 0, 0}, {"0b 0c", both, records{group(1)}, 0, 0}, {"0b 0b 0c 08 01 0c 10 02", both, records{group(1, group(1), varint(1, 1)), varint(2, 2)}, 0, 0},
		{groups(64), both, nil, 63, api.ErrDepth}, {strings.Repeat("0b", 64), both, nil, 63, api.ErrDepth}, {strings.Repeat("0b", 63), both, nil, 63, api.ErrEnds}, {groups(63) + groups(63), both, records{nested(62, group(1)), nested(62, group(1))}, 0, 0},
		{strings.Repeat("0b", 63) + "14", both, nil, 63, api.ErrGroup}, {strings.Repeat("0b", 63) + "0f", both, nil, 63, api.ErrKind}, {strings.Repeat("0b", 63) + "03", both, nil, 63, api.ErrNumber}, {strings.Repeat("0b", 63) + "8b 00", strictly, nil, 63, api.ErrLonger}, {strings.Repeat("0b", 63) + "8b 00", loosely, nil, 63, api.ErrDepth},
		// fixed numbers
		{"0d", both, nil, 1, api.ErrEnds}, {"0d 00", both, nil, 1, api.ErrEnds}, {"0d 00 00 00", both, nil, 1, api.ErrEnds}, {"09", both, nil, 1, api.ErrEnds}, {"09 00 00 00 00 00 00 00", both, nil, 1, api.ErrEnds},
		// texts
		{"12 05 61", both, nil, 1, api.ErrEnds}, {"12 01", both, nil, 1, api.ErrEnds}, {"0b 12 02 0c", both, nil, 2, api.ErrEnds}, {"12" + nine + "01 61", both, nil, 1, api.ErrEnds}, {"12" + nines + "01 61", both, nil, 1, api.ErrEnds}, {"12" + nine[:16] + "7f 61", both, nil, 1, api.ErrEnds},
		// from the left: the first fault, whatever comes behind
		{"08 96 81 00 0c", strictly, nil, 1, api.ErrLonger}, {"08 96 81 00 0c", loosely, nil, 4, api.ErrGroup}, {"0f 80 80", both, nil, 0, api.ErrKind},
	} {
		for i, strict := range []bool{true, false} {
			if c.how == 2-i {
				continue
			}
			b := unhex(c.b)
			l, at, e := wire.Split(b, strict)
			if e != c.e || at != c.at || !same(l, c.want) {
				t.Errorf("P208: Split(%s, %v) = %+v, %d, %v, want %+v, %d, %v", c.b, strict, l, at, e, c.want, c.at, c.e)
			}
		}
	}
}

func TestSplitLong(t *testing.T) { // P208
	for _, strict := range []bool{true, false} {
		b := bytes.Repeat(unhex("08 01"), api.MaxMessage/2)
		if l, at, e := wire.Split(b, strict); e != api.OK || at != 0 || len(l) != api.MaxMessage/2 || l[len(l)-1].Num != 1 {
			t.Errorf("P208: Split of MaxMessage bytes: %d records, %d, %v", len(l), at, e)
		}
		for _, more := range [][]byte{append(b, 0x08), append([]byte{0xff}, b...), make([]byte, 2*api.MaxMessage)} {
			if l, at, e := wire.Split(more, strict); e != api.ErrLong || at != 0 || len(l) > 0 {
				t.Errorf("P208: Split of %d bytes: %d records, %d, %v, want ErrLong", len(more), len(l), at, e)
			}
		}
		b[len(b)-1] = 0x80
		if l, at, e := wire.Split(b, strict); e != api.ErrEnds || at != len(b)-1 || len(l) > 0 {
			t.Errorf("P208: Split of MaxMessage bytes, the last at fault: %d records, %d, %v", len(l), at, e)
		}
	}
}

func TestSplitLikeTheModel(t *testing.T) { // P208
	met := map[api.Errno]int{}
	eachTry(t, func(b []byte) {
		for _, strict := range []bool{true, false} {
			l, at, e := wire.Split(b, strict)
			want, place, err := model{b, strict}.split()
			if e != err || at != place || !same(l, want) {
				t.Fatalf("P208: Split(%x, %v) = %+v, %d, %v, want %+v, %d, %v", b, strict, l, at, e, want, place, err)
			}
			met[e]++
		}
	})
	for _, e := range []api.Errno{api.OK, api.ErrEnds, api.ErrOver, api.ErrLonger, api.ErrKind, api.ErrNumber, api.ErrGroup} {
		if met[e] < 20 {
			t.Errorf("the tries met %v just %d times", e, met[e])
		}
	}
}

func TestThereAndBack(t *testing.T) { // P209, P207
	r := rand.New(rand.NewSource(209))
	for range 20000 {
		l := someRecords(r, 5)
		b, e := wire.Join(l)
		if e != api.OK || !bytes.Equal(b, slowJoin(r, l, 0)) {
			t.Fatalf("P207: Join(%+v) = %x, %v", l, b, e)
		}
		for _, strict := range []bool{true, false} {
			if back, at, e := wire.Split(b, strict); e != api.OK || at != 0 || !same(back, l) {
				t.Fatalf("P209: Split(%x, %v) = %+v, %d, %v, want %+v", b, strict, back, at, e, l)
			}
		}
	}
}

func TestBackAndThere(t *testing.T) { // P209
	longer := 0
	eachTry(t, func(b []byte) {
		strictly, _, es := wire.Split(b, true)
		l, _, e := wire.Split(b, false)
		if es == api.OK {
			joined, ej := wire.Join(strictly)
			if e != api.OK || !same(l, strictly) || ej != api.OK || !bytes.Equal(joined, b) {
				t.Fatalf("P209: %x, strictly %+v, loosely %+v, %v, joined %x, %v", b, strictly, l, e, joined, ej)
			}
		}
		if e != api.OK {
			return
		}
		joined, ej := wire.Join(l)
		if ej != api.OK || len(joined) > len(b) {
			t.Fatalf("P209: %x, split and joined: %x, %v", b, joined, ej)
		}
		if len(joined) < len(b) {
			longer++
		}
		for _, strict := range []bool{true, false} {
			if again, at, e := wire.Split(joined, strict); e != api.OK || at != 0 || !same(again, l) {
				t.Fatalf("P209: %x, split, joined, split: %+v, %d, %v, want %+v", b, again, at, e, l)
			}
		}
	})
	if longer == 0 {
		t.Error("the tries met no bytes that are longer than they must be")
	}
}

// fill writes over all lists of an answer, their spare room too, the inner ones first.
func fill(l records) {
	for _, r := range l {
		fill(r.Inner)
	}
	room := l[:cap(l)]
	for i := range room {
		room[i] = api.Record{Number: -7, Kind: -7, Num: -7, Text: "?"}
	}
}

// spare tells what stands in a list and behind it, with all that hangs on it.
func spare(l records) string { return fmt.Sprintf("%+v", l[:cap(l)]) }

func TestNothingChangedOrShared(t *testing.T) { // P2, P3
	b := unhex("0b 10 01 10 02 10 03 13 12 02 68 69 14 0c 08 01 0b 10 01 0c 12 03 61 62 63 ff ff ff")
	given := b[:len(b)-3]
	kept := string(b)
	first, _, e := wire.Split(given, true)
	second, _, _ := wire.Split(given, true)
	if e != api.OK || len(first) != 4 {
		t.Fatal(first, e)
	}
	want := fmt.Sprintf("%+v", first)
	for i := range b {
		b[i] ^= 0xff
	}
	if got := fmt.Sprintf("%+v", first); got != want {
		t.Errorf("P2: the bytes changed, and the answer with them: %s, want %s", got, want)
	}
	for i := range b {
		b[i] ^= 0xff
	}
	// Of one answer: what is written into one list's spare room does not show in another.
	_ = append(first[0].Inner, varint(9, 9), varint(9, 9), varint(9, 9), varint(9, 9))
	_ = append(first[0].Inner[3].Inner, varint(9, 9), varint(9, 9))
	_ = append(first, varint(9, 9))
	if got := fmt.Sprintf("%+v", first); got != want {
		t.Errorf("P2: lists of one answer share memory: %s, want %s", got, want)
	}
	fill(first[0].Inner)
	if got := fmt.Sprintf("%+v", first[1:]); got != fmt.Sprintf("%+v", second[1:]) {
		t.Errorf("P2: lists of one answer share memory: %s", got)
	}
	fill(first)
	if got := fmt.Sprintf("%+v", second); got != want || string(b) != kept {
		t.Errorf("P2: two answers share memory: %s, want %s; the bytes: %x", got, want, b)
	}
	l := append(make(records, 0, 9), second...)
	l[:9][8] = varint(8, 8)
	before, inner := spare(l), spare(l[0].Inner)
	wire.Join(l)
	wire.Join(append(l, varint(0, 0)))
	l[:9][4] = api.Record{}
	if spare(l) != before || spare(l[0].Inner) != inner {
		t.Errorf("P2: Join changed what it was given: %s, %s, want %s, %s", spare(l), spare(l[0].Inner), before, inner)
	}
}
