package loose_test

import (
	"encoding/binary"
	"slices"
	"testing"

	"sigil/api"
)

func TestPairs(t *testing.T) { // P13: pairs without a key, without a value, with both twice, in any order, with more beside them
	s := wideSchema()
	const strings, numbers, messages = mapped + api.TString, mapped + api.TFixed32, mapped + api.TMessage
	for _, c := range []struct {
		number int
		b      string
		want   api.Value
		skips  []api.Skip // with places in the pair, the map's number left out
	}{
		{strings, "", kv("", text("")), nil},
		{strings, "0a 01 6b", kv("k", text("")), nil},
		{strings, "12 01 76", kv("", text("v")), nil},
		{strings, "0a 01 6b 12 01 76", kv("k", text("v")), nil},
		{strings, "12 01 76 0a 01 6b", kv("k", text("v")), nil},
		{strings, "0a 00 12 00", kv("", text("")), nil},
		{strings, "0a 01 6b 0a 01 6c", kv("l", text("")), nil}, // the last of two
		{strings, "0a 01 6b 0a 00 12 01 76", kv("", text("v")), nil},
		{strings, "12 01 76 12 01 77", kv("", text("w")), nil},
		{strings, "12 01 76 12 00 0a 01 6b", kv("k", text("")), nil},
		{strings, "0a 01 6b 12 01 76 0a 01 6c 12 01 77", kv("l", text("w")), nil},
		{strings, "12 01 77 0a 01 6c 12 01 76 0a 01 6b", kv("k", text("v")), nil},
		{strings, "18 01 0a 01 6b 22 01 ff 12 01 76 2d 00 00 00 00", kv("k", text("v")), []api.Skip{skip(0, 3, 0), skip(5, 4, 2), skip(11, 5, 5)}},
		{strings, "1b 0a 01 6c 1c 0a 01 6b", kv("k", text("")), []api.Skip{skip(0, 3, 3)}},
		{strings, "0b 0a 01 6c 0c 13 14 12 01 76", kv("", text("v")), []api.Skip{skip(0, 1, 3), skip(5, 2, 3)}},
		{strings, "08 05 0a 01 6b 10 05", kv("k", text("")), []api.Skip{skip(0, 1, 0), skip(5, 2, 0)}}, // other wire kinds
		{strings, "0a 01 6b 0d 01 02 03 04", kv("k", text("")), []api.Skip{skip(3, 1, 5)}},
		{strings, "fa 7f 01 61", kv("", text("")), []api.Skip{skip(0, 2047, 2)}},
		{numbers, "", kv("", num(0)), nil},
		{numbers, "15 05 00 00 00", kv("", num(5)), nil},
		{numbers, "15 05 00 00 00 15 00 00 00 00", kv("", num(0)), nil},
		{numbers, "15 05 00 00 00 12 04 06 00 00 00", kv("", num(5)), []api.Skip{skip(5, 2, 2)}}, // no block
		{numbers, "0a 01 6b 10 05", kv("k", num(0)), []api.Skip{skip(3, 2, 0)}},
		{messages, "", kv("", msg()), nil},
		{messages, "12 00", kv("", msg()), nil},
		{messages, "0a 01 6b 12 02 18 05", kv("k", one(3, num(5))), nil},
		{messages, "12 02 18 05 0a 01 6b 12 02 20 06", kv("k", msg(at(3, num(5)), at(4, num(6)))), nil}, // merged
		{messages, "12 02 18 05 12 02 18 06", kv("", one(3, num(6))), nil},
		{messages, "12 02 18 05 12 02 18 00", kv("", msg()), nil},
		{messages, "12 02 18 05 12 00", kv("", one(3, num(5))), nil},
		{messages, "12 05 da 02 02 01 02 12 04 da 02 01 03", kv("", one(repeated+api.TInt32, list(num(1), num(2), num(3)))), nil},
		{messages, "12 03 b8 06 00 12 03 c0 06 00", kv("", one(member+4, num(0))), nil}, // a member takes the other away
		{messages, "10 05 12 02 18 05", kv("", one(3, num(5))), []api.Skip{skip(0, 2, 0)}},
	} {
		b := row(c.b)
		all := record(c.number, b)
		skips := slices.Clone(c.skips)
		for i := range skips {
			skips[i].At += len(all) - len(b)
			skips[i].Trail = []int{c.number}
		}
		reads(t, s, "w.W", all, one(c.number, dict(c.want)), skips...)
		// In the place of another pair with that key, whole; beside one of another key.
		other := kv("other", zeroOf(c.number-mapped))
		first := record(c.number, record(1, []byte(c.want.List[0].Text)), map[int][]byte{strings: row("12 01 78"), numbers: row("15 09 09 09 09"), messages: row("12 04 18 09 28 09")}[c.number])
		ahead := rows(first, record(c.number, record(1, []byte("other"))))
		for i := range skips {
			skips[i].At += len(ahead)
		}
		reads(t, s, "w.W", rows(ahead, all), one(c.number, dict(c.want, other)), skips...)
	}
}

func TestKeysAgain(t *testing.T) { // P13: a key that comes again takes the place of the pair, whole: messages are not merged, other pairs stay
	s := smallSchema()
	for _, c := range []struct {
		b    string
		want api.Value
	}{
		{"22 07 0a 01 6b 12 02 08 01 22 08 0a 01 6b 12 03 12 01 78", dict(kv("k", one(2, text("x"))))},
		{"22 07 0a 01 6b 12 02 08 01 22 03 0a 01 6b", dict(kv("k", msg()))},
		{"22 03 0a 01 6b 22 07 0a 01 6b 12 02 08 01", dict(kv("k", one(1, num(1))))},
		{"22 00 22 04 12 02 08 01 22 02 0a 00", dict(kv("", msg()))},
		{"22 07 0a 01 62 12 02 08 01 22 07 0a 01 61 12 02 08 02 22 07 0a 01 62 12 02 08 03 22 07 0a 01 63 12 02 08 04", dict(kv("a", one(1, num(2))), kv("b", one(1, num(3))), kv("c", one(1, num(4))))},
		{"22 06 0a 01 61 12 01 08", api.Value{}},
	} {
		if c.want.Kind == 0 {
			refuses(t, s, "p.M", row(c.b), 8, api.ErrEnds)
			continue
		}
		reads(t, s, "p.M", row(c.b), one(4, c.want))
	}
}

// keysOf are keys of a type in their order, with how they stand behind a tag.
func keysOf(typ int) ([]api.Value, [][]byte) {
	var keys []api.Value
	var b [][]byte
	add := func(v api.Value, in []byte) { keys, b = append(keys, v), append(b, in) }
	switch typ {
	case api.TString:
		for _, x := range []string{"", "\x00", "A", "a", "a\x00", "aa", "b", "é", "\uffff", "\U0010ffff"} {
			add(text(x), rows(varint(len(x)), []byte(x)))
		}
	case api.TBool:
		add(num(0), row("00"))
		add(num(1), row("80 80 80 80 10")) // of all bits
	case api.TInt32, api.TInt64:
		for _, n := range []int{-1 << 31, -2, -1, 0, 1, 127, 128, 1<<31 - 1} {
			add(num(n), varint(n))
		}
	case api.TUint32:
		for _, n := range []int{0, 1, 128, 1 << 31, 1<<32 - 1} {
			add(num(n), varint(n|1<<40)) // the low bits count
		}
	case api.TUint64:
		for _, n := range []int{0, 1, 1<<63 - 1, -1 << 63, -2, -1} { // without a sign
			add(num(n), varint(n))
		}
	case api.TSint32, api.TSint64:
		for _, n := range []int{-1 << 31, -2, -1, 0, 1, 2, 1<<31 - 1} {
			add(num(n), varint(n<<1^n>>63))
		}
	case api.TFixed32:
		for _, n := range []int{0, 1, 1<<31 - 1, 1 << 31, 1<<32 - 1} {
			add(num(n), binary.LittleEndian.AppendUint32(nil, uint32(n)))
		}
	case api.TSfixed32:
		for _, n := range []int{-1 << 31, -1, 0, 1, 1<<31 - 1} {
			add(num(n), binary.LittleEndian.AppendUint32(nil, uint32(n)))
		}
	case api.TFixed64:
		for _, n := range []int{0, 1, 1<<63 - 1, -1 << 63, -1} {
			add(num(n), binary.LittleEndian.AppendUint64(nil, uint64(n)))
		}
	case api.TSfixed64:
		for _, n := range []int{-1 << 63, -1, 0, 1, 1<<63 - 1} {
			add(num(n), binary.LittleEndian.AppendUint64(nil, uint64(n)))
		}
	}
	return keys, b
}

func TestKeysOfEveryType(t *testing.T) { // P13, P11: keys of every type, in whatever order they come, each of them again
	s := wideSchema()
	for _, typ := range keyTypes {
		keys, b := keysOf(typ)
		if len(keys) < 2 {
			t.Fatalf("no keys of the type %d", typ)
		}
		number := keyed + typ
		pairOf := func(i, n int) []byte { return record(number, tag(1, kindOf(typ)), b[i], tag(2, 0), varint(n)) }
		for i := range keys {
			for j := range keys {
				both := rows(pairOf(i, 1), pairOf(j, 2))
				switch {
				case i < j:
					reads(t, s, "w.W", both, one(number, dict(pair(keys[i], num(1)), pair(keys[j], num(2)))))
				case i > j:
					reads(t, s, "w.W", both, one(number, dict(pair(keys[j], num(2)), pair(keys[i], num(1)))))
				default:
					reads(t, s, "w.W", both, one(number, dict(pair(keys[i], num(2)))))
				}
			}
		}
		m := newMaker(int64(typ))
		for range 20 {
			var all []byte
			v := dict()
			for i, k := range keys {
				v.List = append(v.List, pair(k, num(100+i)))
			}
			for round := range 2 {
				for _, i := range m.Perm(len(keys)) {
					all = append(all, pairOf(i, round*100+i)...)
				}
			}
			reads(t, s, "w.W", all, one(number, v))
		}
		// One without a key has its zero.
		reads(t, s, "w.W", record(number, row("10 05")), one(number, dict(pair(zeroOf(typ), num(5)))))
	}
}

func TestKeysOfThisMapAlone(t *testing.T) { // P13: the keys of other maps, in the same message, in one around it or within, do not count
	s := load(t, `syntax = "proto3"; message M { map<int32, M> a = 1; map<int32, M> b = 2; repeated M c = 3; M d = 4; }`)
	five := func(number int, in ...[]byte) []byte { return record(number, row("08 05"), record(2, in...)) }
	p5 := pair(num(5), msg())
	reads(t, s, "M", rows(five(1), five(2)), msg(at(1, dict(p5)), at(2, dict(p5))))
	reads(t, s, "M", five(1, five(1)), one(1, dict(pair(num(5), one(1, dict(p5))))))
	reads(t, s, "M", rows(record(3, five(1)), record(3, five(1))), one(3, list(one(1, dict(p5)), one(1, dict(p5)))))
	// In messages that are merged it is one map.
	reads(t, s, "M", rows(record(4, five(1, five(2))), record(4, five(1))), one(4, one(1, dict(p5))))
	reads(t, s, "M", rows(record(4, five(1)), five(1), record(4, record(1, row("08 03")))), msg(at(1, dict(p5)), at(4, one(1, dict(pair(num(3), msg()), p5)))))
}
