package loose_test

import (
	"bytes"
	"testing"

	"sigil/api"
)

// way is a way to lay a message into another.
type way struct {
	number int
	bytes  func(b []byte) []byte
	tree   func(v api.Value) api.Value
}

// ways are a field, an optional one, a member, a list, a pair, a pair whose message comes ahead of its key.
func ways() []way {
	itself := func(v api.Value) api.Value { return v }
	plain := func(number int) way {
		return way{number, func(b []byte) []byte { return record(number, b) }, itself}
	}
	const pairs = mapped + api.TMessage
	inPair := func(v api.Value) api.Value { return dict(kv("k", v)) }
	return []way{
		plain(api.TMessage), plain(optional + api.TMessage), plain(member + api.TMessage),
		{repeated + api.TMessage, func(b []byte) []byte { return record(repeated+api.TMessage, b) }, func(v api.Value) api.Value { return list(v) }},
		{pairs, func(b []byte) []byte { return record(pairs, row("0a 01 6b"), record(2, b)) }, inPair},
		{pairs, func(b []byte) []byte { return record(pairs, record(2, b), row("0a 01 6b")) }, inPair},
	}
}

func TestMostDepth(t *testing.T) { // P13, P7: 64 and 65 messages in one another, by fields, lists, maps, members, and in turns
	s := wideSchema()
	l := ways()
	for turn := range len(l) + 1 {
		pick := func(k int) way {
			if turn < len(l) {
				return l[turn]
			}
			return l[k%len(l)]
		}
		for _, in := range []struct {
			b []byte
			v api.Value
		}{{nil, msg()}, {row("18 05"), one(3, num(5))}, {record(repeated+3, row("01")), one(repeated+3, list(num(1)))}, {record(mapped + 3), one(mapped+3, dict(kv("", num(0))))}} {
			b, v := in.b, in.v
			for k := range 63 {
				b, v = pick(k).bytes(b), one(pick(k).number, pick(k).tree(v))
			}
			reads(t, s, "w.W", b, v)
			over := pick(63).bytes(b)
			refuses(t, s, "w.W", over, bytes.LastIndex(over, pick(0).bytes(in.b)), api.ErrDepth) // at the innermost record, in which the 65th message lies
		}
	}
}

func TestPairsOfMessages(t *testing.T) { // P13, P1102: a pair of a map of messages holds one, written or not: in the 64th message none may begin; a pair of numbers may
	s := wideSchema()
	for _, in := range [][]byte{nil, row("0a 00"), row("12 00"), row("0a 01 6b 12 00"), row("18 01"), row("10 01"), row("00")} {
		b := deep(64, record(mapped+api.TMessage, in))
		refuses(t, s, "w.W", b, len(b)-len(record(mapped+api.TMessage, in)), api.ErrDepth)
		c := rows(row("18 01"), record(mapped+api.TMessage, in))
		b = deep(64, c)
		refuses(t, s, "w.W", b, len(b)-len(c)+2, api.ErrDepth)
	}
	v := one(mapped+3, dict(kv("", num(5))))
	w := one(mapped+api.TMessage, dict(kv("", msg())))
	for range 63 {
		v = one(api.TMessage, v)
	}
	reads(t, s, "w.W", deep(64, record(mapped+3, row("10 05"))), v)
	for range 62 {
		w = one(api.TMessage, w)
	}
	reads(t, s, "w.W", deep(63, record(mapped+api.TMessage)), w)
	// What is in a pair counts as if it stood in the message that holds the map.
	at63 := record(mapped+api.TMessage, record(2, record(api.TMessage)))
	b := deep(63, at63)
	refuses(t, s, "w.W", b, len(b)-3, api.ErrDepth)
	group := rows(tag(unknown, 3), tag(unknown, 4))
	b = deep(64, record(mapped+3, group))
	refuses(t, s, "w.W", b, len(b)-len(group), api.ErrDepth)
	b = deep(63, record(mapped+api.TMessage, group))
	reads(t, s, "w.W", b, w, skip(len(b)-len(group), unknown, 3, append(trailOf(62), mapped+api.TMessage)...))
	b = deep(63, record(mapped+api.TMessage, record(2, group)))
	refuses(t, s, "w.W", b, len(b)-len(group), api.ErrDepth)
}

// trailOf is the trail of a message that so many fields lie above.
func trailOf(levels int) []int {
	l := make([]int, levels)
	for i := range l {
		l[i] = api.TMessage
	}
	return l
}

func TestGroups(t *testing.T) { // P13, P1102: groups in one another, of one number and of many, with every kind of record in them, closed by another number, open at a part's end
	s := smallSchema()
	for _, c := range []struct {
		b     string
		want  api.Value
		skips []api.Skip
	}{
		{"0b 0c", msg(), []api.Skip{skip(0, 1, 3)}}, {"43 44", msg(), []api.Skip{skip(0, 8, 3)}}, {"0b 0b 0c 0c", msg(), []api.Skip{skip(0, 1, 3)}}, {"0b 13 14 1b 1c 0c", msg(), []api.Skip{skip(0, 1, 3)}}, {"0b 0c 13 14", msg(), []api.Skip{skip(0, 1, 3), skip(2, 2, 3)}},
		{"0b 08 05 0c 08 06 0b 08 07 0c", one(1, num(6)), []api.Skip{skip(0, 1, 3), skip(6, 1, 3)}},
		{"23 08 ff 01 11 01 02 03 04 05 06 07 08 12 02 ff 0c 1d 01 02 03 04 24", msg(), []api.Skip{skip(0, 4, 3)}},
		{"3a 04 08 01 0b 0c", one(7, one(1, num(1))), []api.Skip{skip(4, 1, 3, 7)}}, {"8b 80 00 8c 00", msg(), []api.Skip{skip(0, 1, 3)}},
		{"fb ff ff ff 0f fc ff ff ff 0f", msg(), []api.Skip{skip(0, api.MaxNumber, 3)}},
		{"22 06 0b 12 00 0c 12 00", one(4, dict(kv("", msg()))), []api.Skip{skip(2, 1, 3, 4)}},
	} {
		reads(t, s, "p.M", row(c.b), c.want, c.skips...)
	}
	for _, c := range []struct {
		b  string
		at int
		e  api.Errno
	}{
		{"0b 14", 1, api.ErrGroup}, {"0b 13 0c", 2, api.ErrGroup}, {"0b 13 14 14", 3, api.ErrGroup}, {"0b 0c 0c", 2, api.ErrGroup}, {"14", 0, api.ErrGroup}, {"08 01 0c", 2, api.ErrGroup}, {"fc ff ff ff 0f", 0, api.ErrGroup},
		{"0b", 1, api.ErrEnds}, {"0b 0b 0c", 3, api.ErrEnds}, {"0b 08 01", 3, api.ErrEnds}, {"08 01 0b", 3, api.ErrEnds}, {"3a 01 0b 0c", 3, api.ErrEnds}, {"3a 03 0b 08 01 0c", 5, api.ErrEnds}, {"0b 3a 01 0c", 4, api.ErrEnds}, {"22 01 0b 0c", 3, api.ErrEnds}, {"22 03 12 01 0b 0c", 5, api.ErrEnds}, {"0b 12 01 0c 0d", 5, api.ErrEnds},
		{"0b 00 0c", 1, api.ErrNumber}, {"0b 0e 0c", 1, api.ErrKind}, {"0b 08 0c", 3, api.ErrEnds}, {"0b 12 05 0c", 2, api.ErrEnds}, {"0b 1d 0c 0c 0c", 2, api.ErrEnds}, {"0b 80", 1, api.ErrEnds},
	} {
		refuses(t, s, "p.M", row(c.b), c.at, c.e)
	}
}

func TestMostGroups(t *testing.T) { // P13: groups of MaxDepth and of one more, at the top, in messages of every depth, in pairs
	s := wideSchema()
	open, end := tag(unknown, 3), tag(unknown, 4)
	groups := func(n int) []byte { return rows(bytes.Repeat(open, n), bytes.Repeat(end, n)) }
	for level := 1; level <= 64; level++ {
		most := 64 - level
		if most > 0 {
			b := deep(level, groups(most))
			v := msg()
			for range level - 1 {
				v = one(api.TMessage, v)
			}
			reads(t, s, "w.W", b, v, skip(len(b)-len(groups(most)), unknown, 3, trailOf(level-1)...))
		}
		b := deep(level, groups(most+1))
		refuses(t, s, "w.W", b, len(b)-len(groups(most+1))+most*len(open), api.ErrDepth)
		c := groups(most + 1)
		b = deep(level, record(mapped+3, c)) // a pair does not count
		refuses(t, s, "w.W", b, len(b)-len(c)+most*len(open), api.ErrDepth)
	}
	refuses(t, s, "w.W", bytes.Repeat(open, 64), 63*len(open), api.ErrDepth)
	refuses(t, s, "w.W", bytes.Repeat(open, 63), 63*len(open), api.ErrEnds)
	refuses(t, s, "w.W", bytes.Repeat(open, 1<<18), 63*len(open), api.ErrDepth)
	// Many beside one another leave nothing behind.
	b, skips := []byte(nil), []api.Skip(nil)
	for range 10 {
		skips = append(skips, skip(len(b), unknown, 3))
		b = append(b, groups(63)...)
	}
	reads(t, s, "w.W", b, msg(), skips...)
	// A message in a group is passed over: what is in it is not looked at.
	reads(t, s, "w.W", rows(bytes.Repeat(open, 63), record(api.TMessage, row("8a 01 00")), bytes.Repeat(end, 63)), msg(), skip(0, unknown, 3))
	refuses(t, s, "w.W", rows(bytes.Repeat(open, 63), row("1b 1c"), bytes.Repeat(end, 63)), 63*len(open), api.ErrDepth)
}

func TestDepthPassedOver(t *testing.T) { // P13: a message's record in the 64th one that is passed over, or is none, begins no message
	s := wideSchema()
	v := msg()
	for range 63 {
		v = one(api.TMessage, v)
	}
	for _, c := range []struct{ number, kind, size int }{{api.TMessage, 0, 1}, {mapped + api.TMessage, 5, 4}, {repeated + api.TMessage, 1, 8}} {
		in := rows(tag(c.number, c.kind), make([]byte, c.size))
		b := deep(64, in)
		reads(t, s, "w.W", b, v, skip(len(b)-len(in), c.number, c.kind, trailOf(63)...))
	}
	b := deep(64, record(unknown, record(api.TMessage)))
	reads(t, s, "w.W", b, v, skip(len(b)-6, unknown, 2, trailOf(63)...))
}

func TestDeepBeside(t *testing.T) { // P13: what lies deep leaves nothing behind for what stands beside it
	s := smallSchema()
	b, v := []byte(nil), msg()
	for range 62 {
		b, v = record(7, b), one(7, v)
	}
	all, tree := []byte(nil), dict()
	for i := range 4 {
		key := string(rune('a' + i))
		all, tree.List = append(all, record(4, record(1, []byte(key)), record(2, b))...), append(tree.List, kv(key, v))
	}
	reads(t, s, "p.M", all, one(4, tree))
	over := record(4, record(1, []byte("z")), record(2, record(7, b)))
	refuses(t, s, "p.M", rows(all, over), len(all)+len(over)-2, api.ErrDepth)
}
