package strict_test

import (
	"encoding/binary"
	"math"
	"slices"
	"testing"

	"sigil/api"
	"sigil/strict"
)

// bare is a number and how it stands without a tag.
type bare struct {
	n int
	b string
}

// bares are numbers of each numeric type, in the order of keys: those at its bounds, the zero, and such that have as many bytes as there are.
func bares() map[int][]bare {
	word := []bare{{0, "00 00 00 00"}, {1, "01 00 00 00"}, {0x01020304, "04 03 02 01"}, {math.MaxInt32, "ff ff ff 7f"}, {1 << 31, "00 00 00 80"}, {math.MaxUint32, "ff ff ff ff"}}
	signed := []bare{{math.MinInt32, "00 00 00 80"}, {-2, "fe ff ff ff"}, {-1, "ff ff ff ff"}, {0, "00 00 00 00"}, {1, "01 00 00 00"}, {math.MaxInt32, "ff ff ff 7f"}}
	least, minus := bare{math.MinInt, "00 00 00 00 00 00 00 80"}, bare{-1, "ff ff ff ff ff ff ff ff"}
	rest := []bare{{0, "00 00 00 00 00 00 00 00"}, {1, "01 00 00 00 00 00 00 00"}, {0x0102030405060708, "08 07 06 05 04 03 02 01"}, {math.MaxInt, "ff ff ff ff ff ff ff 7f"}}
	negative := []bare{{math.MinInt32, "80 80 80 80 f8 ff ff ff ff 01"}, {-300, "d4 fd ff ff ff ff ff ff ff 01"}, {-1, "ff ff ff ff ff ff ff ff ff 01"}}
	positive := []bare{{0, "00"}, {1, "01"}, {127, "7f"}, {128, "80 01"}, {16383, "ff 7f"}, {16384, "80 80 01"}, {1<<21 - 1, "ff ff 7f"}, {1 << 21, "80 80 80 01"}, {1 << 28, "80 80 80 80 01"}, {math.MaxInt32, "ff ff ff ff 07"}}
	more := []bare{{math.MaxInt32 + 1, "80 80 80 80 08"}, {math.MaxUint32, "ff ff ff ff 0f"}}
	huge := []bare{{1 << 32, "80 80 80 80 10"}, {1 << 35, "80 80 80 80 80 01"}, {1 << 42, "80 80 80 80 80 80 01"}, {1 << 49, "80 80 80 80 80 80 80 01"}, {1 << 56, "80 80 80 80 80 80 80 80 01"}, {math.MaxInt, "ff ff ff ff ff ff ff ff 7f"}}
	lowest := []bare{{math.MinInt, "80 80 80 80 80 80 80 80 80 01"}, {math.MinInt32 - 1, "ff ff ff ff f7 ff ff ff ff 01"}}
	zig := []bare{{math.MinInt32, "ff ff ff ff 0f"}, {-65, "81 01"}, {-64, "7f"}, {-1, "01"}, {0, "00"}, {1, "02"}, {63, "7e"}, {64, "80 01"}, {math.MaxInt32, "fe ff ff ff 0f"}}
	zigs := []bare{{math.MinInt, "ff ff ff ff ff ff ff ff ff 01"}, {math.MinInt + 1, "fd ff ff ff ff ff ff ff ff 01"}, {math.MinInt32 - 1, "81 80 80 80 10"}}
	zags := []bare{{math.MaxInt32 + 1, "80 80 80 80 10"}, {math.MaxInt, "fe ff ff ff ff ff ff ff ff 01"}}
	return map[int][]bare{
		api.TDouble: append(append([]bare{least, minus}, rest...), bare{0x3ff0000000000000, "00 00 00 00 00 00 f0 3f"}), api.TFloat: append(word, bare{0x3f800000, "00 00 80 3f"}),
		api.TInt32: slices.Concat(negative, positive), api.TEnum: slices.Concat(negative, positive),
		api.TInt64:  slices.Concat(lowest, negative, positive, more, huge),
		api.TUint32: slices.Concat(positive, more), api.TUint64: slices.Concat(positive, more, huge, lowest, negative),
		api.TSint32: zig, api.TSint64: slices.Concat(zigs, zig, zags),
		api.TFixed32: word, api.TSfixed32: signed,
		api.TFixed64: slices.Concat(rest, []bare{least, minus}), api.TSfixed64: slices.Concat([]bare{least, minus}, rest),
		api.TBool: {{0, "00"}, {1, "01"}},
	}
}

// pasts are varints that are right and no numbers of a type: one past its bounds, and others.
func pasts() map[int][]string {
	past32 := []string{"80 80 80 80 08", "ff ff ff ff 0f", "80 80 80 80 10", "ff ff ff ff f7 ff ff ff ff 01", "80 80 80 80 80 80 80 80 80 01", "80 80 80 80 80 01", "ff ff ff ff ff ff ff ff 7f", "80 80 80 80 78", "ff ff ff ff 7f"}
	pastWord := []string{"80 80 80 80 10", "81 80 80 80 10", "ff ff ff ff ff ff ff ff ff 01", "80 80 80 80 f8 ff ff ff ff 01", "80 80 80 80 80 80 80 80 80 01", "80 80 80 80 80 01"}
	return map[int][]string{
		api.TInt32: past32, api.TEnum: past32, api.TUint32: pastWord, api.TSint32: pastWord,
		api.TBool: {"02", "03", "7f", "80 01", "81 01", "80 80 80 80 10", "81 80 80 80 10", "ff ff ff ff ff ff ff ff ff 01", "80 80 80 80 80 80 80 80 80 01"},
	}
}

// spoilt are bytes that are no varint, whatever stands behind them.
var spoilt = []struct {
	b string
	e api.Errno
}{
	{"80 00", api.ErrLonger}, {"81 00", api.ErrLonger}, {"ff 80 00", api.ErrLonger}, {"81 80 80 80 80 80 80 80 80 00", api.ErrLonger},
	{"ff ff ff ff ff ff ff ff ff 02", api.ErrOver}, {"80 80 80 80 80 80 80 80 80 7f", api.ErrOver}, {"80 80 80 80 80 80 80 80 80 80", api.ErrOver}, {"ff ff ff ff ff ff ff ff ff ff ff 01", api.ErrOver},
}

// card is where a value of a type may stand: what is around it, and how its field's tree is.
type card struct {
	name   string
	number int // without the type
	bytes  func(number, kind int, b []byte) []byte
	tree   func(v api.Value) api.Value
}

// cards are the cards. The bytes of the value come as the last ones.
func cards() []card {
	plain := func(number, kind int, b []byte) []byte { return rows(tag(number, kind), b) }
	itself := func(v api.Value) api.Value { return v }
	return []card{
		{"single", single, plain, itself}, {"optional", optional, plain, itself}, {"member", member, plain, itself},
		{"a list", repeated, func(number, kind int, b []byte) []byte {
			if kind == 2 {
				return rows(tag(number, 2), b)
			}
			return record(number, b)
		}, func(v api.Value) api.Value { return list(v) }},
		{"a map's value", mapped, func(number, kind int, b []byte) []byte { return record(number, row("0a 01 6b"), tag(2, kind), b) }, func(v api.Value) api.Value { return dict(kv("k", v)) }},
	}
}

func TestNumbers(t *testing.T) { // P1003: numbers at the bounds of each type, by every card
	s := wideSchema()
	for typ, l := range bares() {
		for _, c := range l {
			b := row(c.b)
			for _, d := range cards() {
				all := d.bytes(d.number+typ, kindOf(typ), b)
				if d.number == single && c.n == 0 {
					refuses(t, s, "w.W", all, len(all)-len(b), api.ErrZero)
					continue
				}
				reads(t, s, "w.W", all, one(d.number+typ, d.tree(num(c.n))))
			}
			if slices.Contains(keyTypes, typ) {
				reads(t, s, "w.W", record(keyed+typ, tag(1, kindOf(typ)), b, row("10 00")), one(keyed+typ, dict(pair(num(c.n), num(0)))))
			}
		}
	}
}

func TestNumbersPast(t *testing.T) { // P1003: numbers one past the bounds of each type, by every card
	s := wideSchema()
	for typ, l := range pasts() {
		for _, digits := range l {
			b := row(digits)
			for _, d := range cards() {
				all := d.bytes(d.number+typ, 0, b)
				refuses(t, s, "w.W", all, len(all)-len(b), api.ErrForm)
				if d.number != mapped && d.number != repeated {
					refuses(t, s, "w.W", rows(all, row("00")), len(all)-len(b), api.ErrForm)
				}
			}
			refuses(t, s, "w.W", record(repeated+typ, row("01 00"), b, row("01")), len(tag(repeated+typ, 2))+3, api.ErrForm)
			if slices.Contains(keyTypes, typ) {
				all := record(keyed+typ, row("08"), b, row("10 00"))
				refuses(t, s, "w.W", all, len(all)-len(b)-2, api.ErrForm)
			}
		}
	}
}

func TestBoundsOneByOne(t *testing.T) { // P1003: the numbers around each bound, a second way
	s := wideSchema()
	for typ, edges := range map[int][2]uint64{api.TUint32: {0, math.MaxUint32}, api.TSint32: {0, math.MaxUint32}, api.TBool: {0, 1}, api.TInt32: {1<<64 - 1<<31, 1<<31 - 1}, api.TEnum: {1<<64 - 1<<31, 1<<31 - 1}} {
		for _, edge := range edges {
			for k := range uint64(7) {
				u := edge + k - 3
				b := binary.AppendUvarint(nil, u)
				all := rows(tag(optional+typ, 0), b)
				right := u-edges[0] <= edges[1]-edges[0] // from the lower bound on, round about
				if !right {
					refuses(t, s, "w.W", all, len(all)-len(b), api.ErrForm)
				} else if _, e := strict.Check(s, "w.W", all); e != api.OK {
					t.Errorf("P1003: %s of type %d: %v", some(all), typ, e)
				}
			}
		}
	}
}

func TestNumbersSpoilt(t *testing.T) { // P1003: varints of more than ten bytes, and longer than need be, by every card
	s := wideSchema()
	for typ := api.TDouble; typ <= api.TEnum; typ++ {
		if kindOf(typ) != 0 {
			continue
		}
		for _, c := range spoilt {
			b := row(c.b)
			for _, d := range cards() {
				all := d.bytes(d.number+typ, 0, b)
				refuses(t, s, "w.W", all, len(all)-len(b), c.e)
			}
			refuses(t, s, "w.W", record(repeated+typ, row("01 00 01"), b, row("01")), len(tag(repeated+typ, 2))+4, c.e)
			if slices.Contains(keyTypes, typ) {
				all := record(keyed+typ, row("08"), b, row("10 00"))
				refuses(t, s, "w.W", all, len(all)-len(b)-2, c.e)
			}
		}
	}
}

func TestNumbersThatEnd(t *testing.T) { // P1003: numbers that end early: at the end of all, of a message, a block, a pair, with what would go on behind it
	s := wideSchema()
	for typ, l := range bares() {
		for _, c := range l {
			whole := row(c.b)
			for cut := range len(whole) {
				b := whole[:cut]
				for _, d := range cards() {
					all := d.bytes(d.number+typ, kindOf(typ), b)
					if cut == 0 && d.number == repeated {
						refuses(t, s, "w.W", all, len(all)-1, api.ErrEmpty)
						continue
					}
					answers(t, s, "w.W", all, len(all)-cut, api.ErrEnds)
					if d.number == repeated || d.number == mapped {
						answers(t, s, "w.W", rows(all, whole[cut:]), len(all)-cut, api.ErrEnds)
					}
					in := record(api.TMessage, all)
					answers(t, s, "w.W", rows(in, whole[cut:]), len(in)-cut, api.ErrEnds)
				}
				all := record(repeated+typ, whole, whole, b)
				if cut > 0 {
					refuses(t, s, "w.W", all, len(all)-cut, api.ErrEnds)
				}
				if slices.Contains(keyTypes, typ) {
					all = record(keyed+typ, tag(1, kindOf(typ)), b)
					refuses(t, s, "w.W", rows(all, whole[cut:], row("10 00")), len(all)-cut, api.ErrEnds)
				}
			}
		}
	}
}

func TestBlocks(t *testing.T) { // P1005: blocks of many numbers, of each type, in their order; none, and bytes that run out
	s := wideSchema()
	for typ, l := range bares() {
		block, v := []byte(nil), list()
		for range 3 {
			for _, c := range l {
				block, v.List = append(block, row(c.b)...), append(v.List, num(c.n))
			}
			slices.Reverse(l)
		}
		number := repeated + typ
		reads(t, s, "w.W", record(number, block), one(number, v))
		reads(t, s, "w.W", rows(row("18 01"), record(number, block), record(tail, []byte("x"))), msg(at(3, num(1)), at(number, v), at(tail, text("x"))))
		reads(t, s, "w.W", record(number, row(l[0].b)), one(number, list(num(l[0].n))))
		start := len(tag(number, 2))
		within(t, record(number), start, api.ErrEmpty)
		refuses(t, s, "w.W", rows(record(number), record(number, block)), start, api.ErrEmpty)
		refuses(t, s, "w.W", rows(record(number, block), record(number, block)), len(record(number, block)), api.ErrOrder)
		refuses(t, s, "w.W", rows(tag(number, 2), varint(len(block)+1), block), start, api.ErrEnds)
		refuses(t, s, "w.W", rows(tag(number, 2), row("80 00"), block), start, api.ErrLonger)
	}
}

func TestZeros(t *testing.T) { // P1005: the zeros of implicit fields, and those that may be there
	for typ := api.TDouble; typ <= api.TEnum; typ++ {
		zero := [][]byte{row("00"), make([]byte, 8), row("00"), nil, nil, make([]byte, 4)}[kindOf(typ)]
		within(t, rows(tag(typ, kindOf(typ)), zero), 1+typ/16, api.ErrZero)
		v := num(0)
		if kindOf(typ) == 2 {
			v = text("")
		}
		for _, d := range cards()[1:] {
			stands(t, d.bytes(d.number+typ, kindOf(typ), zero), one(d.number+typ, d.tree(v)))
		}
	}
	// A float's -0, and numbers of which only the highest byte is not 0.
	stands(t, row("15 00 00 00 80"), one(api.TFloat, num(1<<31)))
	stands(t, row("09 00 00 00 00 00 00 00 80"), one(api.TDouble, num(math.MinInt)))
	stands(t, row("20 80 80 80 80 80 80 80 80 80 01"), one(api.TInt64, num(math.MinInt)))
	stands(t, row("4d 00 00 00 01"), one(api.TFixed32, num(1<<24)))
	// Messages without fields are no zeros.
	for _, number := range []int{api.TMessage, optional + api.TMessage, member + api.TMessage, ofV, ofU} {
		stands(t, record(number), one(number, msg()))
	}
	stands(t, rows(record(repeated+api.TMessage), record(repeated+api.TMessage)), one(repeated+api.TMessage, list(msg(), msg())))
}
