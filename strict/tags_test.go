package strict_test

import (
	"bytes"
	"fmt"
	"slices"
	"testing"

	"sigil/api"
)

// inside are ways to stand in a message of type w.W that lies in others: what is written ahead, around and behind, and the tree.
type inside struct {
	name  string
	bytes func(b []byte) []byte
	tree  func(v api.Value) api.Value
}

// insides are the ways; The bytes that are put in come as the last ones.
func insides() []inside {
	return []inside{
		{"the top", func(b []byte) []byte { return b }, func(v api.Value) api.Value { return v }},
		{"a field", func(b []byte) []byte { return record(api.TMessage, b) }, func(v api.Value) api.Value { return one(api.TMessage, v) }},
		{"an optional field", func(b []byte) []byte { return rows(row("18 01"), record(optional+api.TMessage, b)) }, func(v api.Value) api.Value { return msg(at(3, num(1)), at(optional+api.TMessage, v)) }},
		{"a member", func(b []byte) []byte { return record(member+api.TMessage, b) }, func(v api.Value) api.Value { return one(member+api.TMessage, v) }},
		{"a list", func(b []byte) []byte { return rows(record(repeated+api.TMessage), record(repeated+api.TMessage, b)) }, func(v api.Value) api.Value { return one(repeated+api.TMessage, list(msg(), v)) }},
		{"a pair", func(b []byte) []byte {
			return rows(record(mapped+api.TMessage, row("0a 00 12 00")), record(mapped+api.TMessage, row("0a 01 6b"), record(2, b)))
		}, func(v api.Value) api.Value { return one(mapped+api.TMessage, dict(kv("", msg()), kv("k", v))) }},
		{"another type", func(b []byte) []byte { return record(ofV, record(2, b)) }, func(v api.Value) api.Value { return one(ofV, one(2, v)) }},
		{"deep", func(b []byte) []byte {
			for range 60 {
				b = record(api.TMessage, b)
			}
			return b
		}, func(v api.Value) api.Value {
			for range 60 {
				v = one(api.TMessage, v)
			}
			return v
		}},
	}
}

// within looks whether bytes are refused at a place, in a message wherever it stands, also with more behind that message.
func within(t *testing.T, b []byte, place int, want api.Errno) {
	t.Helper()
	for _, in := range insides() {
		all := in.bytes(b)
		if !bytes.HasSuffix(all, b) {
			t.Fatalf("%s: the bytes are not the last ones", in.name)
		}
		refuses(t, wideSchema(), "w.W", all, len(all)-len(b)+place, want)
		if in.name != "the top" {
			for _, more := range [][]byte{row("00"), record(tail, []byte("x")), row("ff ff ff ff ff ff ff ff ff ff ff")} {
				answers(t, wideSchema(), "w.W", rows(all, more), len(all)-len(b)+place, want)
			}
		}
	}
}

// stands looks whether bytes are read as a message, wherever it stands.
func stands(t *testing.T, b []byte, v api.Value) {
	t.Helper()
	for _, in := range insides() {
		reads(t, wideSchema(), "w.W", in.bytes(b), in.tree(v))
	}
}

func TestTags(t *testing.T) { // P1002: what is wrong with a tag by itself
	for _, c := range []struct {
		b string
		e api.Errno
	}{
		// varints that are none
		{"80", api.ErrEnds}, {"98", api.ErrEnds}, {"ff ff ff ff ff ff ff ff ff", api.ErrEnds},
		{"ff ff ff ff ff ff ff ff ff 02", api.ErrOver}, {"80 80 80 80 80 80 80 80 80 80", api.ErrOver}, {"98 80 80 80 80 80 80 80 80 02 01", api.ErrOver}, {"ff ff ff ff ff ff ff ff ff ff 01", api.ErrOver},
		{"80 00", api.ErrLonger}, {"98 00 01", api.ErrLonger}, {"98 80 00 01", api.ErrLonger}, {"98 80 80 80 80 80 80 80 80 00 01", api.ErrLonger}, {"ff 00", api.ErrLonger},
		// numbers of no field
		{"00", api.ErrNumber}, {"02", api.ErrNumber}, {"06", api.ErrNumber}, {"07", api.ErrNumber}, {"05 00 00 00 00", api.ErrNumber},
		{"80 80 80 80 10 00", api.ErrNumber}, {"87 80 80 80 10", api.ErrNumber}, {"ff ff ff ff ff ff ff ff ff 01", api.ErrNumber}, {"80 80 80 80 80 80 80 80 80 01", api.ErrNumber}, {"9a 80 80 80 80 80 80 80 80 01 00", api.ErrNumber},
		// kinds that are none
		{"1e", api.ErrKind}, {"1f", api.ErrKind}, {"fe ff ff ff 0f", api.ErrKind}, {"96 01", api.ErrKind}, {"97 01", api.ErrKind},
		// fields that the type has not
		{"90 01 01", api.ErrStranger}, {"98 01 01", api.ErrStranger}, {"92 01 00", api.ErrStranger}, {"91 01 00 00 00 00 00 00 00 00", api.ErrStranger}, {"95 01 00 00 00 00", api.ErrStranger}, {"93 01 94 01", api.ErrStranger}, {"94 01", api.ErrStranger}, {"f0 ff ff ff 0f 01", api.ErrStranger}, {"98 80 80 80 08", api.ErrStranger},
	} {
		within(t, row(c.b), 0, c.e)
		ahead := row("1d 01 00 00 00") // a tag of the kind 5 for the field 3
		within(t, rows(ahead, row(c.b)), 0, api.ErrWire)
		ahead = row("18 05") // the field 3, a 5
		within(t, rows(ahead, row(c.b)), 2, c.e)
	}
}

func TestTagsOfAllLengths(t *testing.T) { // P1002: tags of all lengths, the shortest and longer ones
	for _, n := range []int{1, 15, 16, 2047, 2048, 262143, 262144, 33554431, 33554432, api.MaxNumber} {
		s := load(t, fmt.Sprintf(`syntax = "proto3"; message M { int32 a = %d; }`, n))
		reads(t, s, "M", rows(tag(n, 0), row("01")), one(n, num(1)))
		longer := tag(n, 0)
		longer[len(longer)-1] |= 0x80
		refuses(t, s, "M", rows(longer, row("00 01")), 0, api.ErrLonger)
		if n > 15 {
			refuses(t, s, "M", tag(n, 0)[:len(tag(n, 0))-1], 0, api.ErrEnds)
		}
		for _, other := range []int{n - 1, n + 1, n / 2, n * 2, n + 1<<29, n + 1<<32, n + 1<<56} {
			want := api.ErrStranger
			if other < 1 || other > api.MaxNumber {
				want = api.ErrNumber
			}
			refuses(t, s, "M", rows(tag(other, 0), row("01")), 0, want)
		}
	}
}

func TestWireKinds(t *testing.T) { // P1002: of each field every wire kind but its own
	contents := [][]byte{row("01"), row("01 00 00 00 00 00 00 00"), row("00"), nil, nil, row("01 00 00 00")}
	info, _ := wideSchema().Message("w.W")
	for _, f := range info.Fields {
		own := kindOf(f.Type)
		if f.Card == api.CRepeated || f.Card == api.CMap {
			own = 2
		}
		for kind := range 6 {
			if kind != own {
				refuses(t, wideSchema(), "w.W", rows(tag(f.Number, kind), contents[kind]), 0, api.ErrWire)
			}
		}
		for kind := 6; kind < 8; kind++ {
			refuses(t, wideSchema(), "w.W", tag(f.Number, kind), 0, api.ErrKind)
		}
	}
	// A list of a numeric type, each number in a record of its own.
	for typ := api.TDouble; typ <= api.TBool; typ++ {
		within(t, rows(tag(repeated+typ, kindOf(typ)), contents[kindOf(typ)]), 0, api.ErrWire)
	}
}

// sample is a record of a field that is right by itself.
func sample(f api.Field) []byte {
	contents := [][]byte{row("01"), row("01 00 00 00 00 00 00 00"), row("01 61"), nil, nil, row("01 00 00 00")}
	if f.Type == api.TMessage {
		contents[2] = row("00")
	}
	in := rows(tag(2, kindOf(f.Type)), contents[kindOf(f.Type)])
	switch {
	case f.Card == api.CMap && f.Key == api.TString:
		return record(f.Number, row("0a 01 61"), in)
	case f.Card == api.CMap:
		return record(f.Number, tag(1, kindOf(f.Key)), contents[kindOf(f.Key)], in)
	case f.Card == api.CRepeated && kindOf(f.Type) != 2:
		return record(f.Number, contents[kindOf(f.Type)])
	}
	return rows(tag(f.Number, kindOf(f.Type)), contents[kindOf(f.Type)])
}

func TestOrder(t *testing.T) { // P1002: every two fields of a message, either first, and each one twice
	s := wideSchema()
	info, _ := s.Message("w.W")
	for i, f := range info.Fields {
		a := sample(f)
		for j, g := range info.Fields {
			b := sample(g)
			want, place := api.OK, len(a)
			switch {
			case j < i:
				want = api.ErrOrder
			case j == i && f.Card == api.CMap: // the same key
				_, after := tagged(b)
				_, key := tagged(b[after+1:])
				want, place = api.ErrKeys, place+after+1+key
			case j == i && !(f.Card == api.CRepeated && kindOf(f.Type) == 2):
				want = api.ErrOrder
			case j > i && f.Oneof != 0 && f.Oneof == g.Oneof:
				want = api.ErrBoth
			}
			if want == api.OK {
				v, bad := secondly(s, "w.W", rows(a, b))
				if bad.err != api.OK {
					t.Fatalf("a second reading of %d and %d: %+v", f.Number, g.Number, bad)
				}
				reads(t, s, "w.W", rows(a, b), v)
				continue
			}
			answers(t, s, "w.W", rows(a, b), place, want)
		}
	}
}

// tagged tells the value of a varint in front, and how many bytes it has.
func tagged(b []byte) (int, int) {
	n := slices.IndexFunc(b, func(c byte) bool { return c < 128 }) + 1
	v := 0
	for i, c := range b[:n] {
		v |= int(c&127) << (7 * i)
	}
	return v, n
}

func TestOrderAfterMore(t *testing.T) { // P1002: the record ahead counts, and that of this message alone
	s := smallSchema()
	for _, c := range []struct {
		b  string
		at int
		e  api.Errno
	}{
		{"08 01 12 01 61 08 02", 5, api.ErrOrder}, {"08 01 28 01 12 01 61", 4, api.ErrOrder}, {"12 01 61 12 01 61", 3, api.ErrOrder}, {"28 00 28 00", 2, api.ErrOrder},
		{"35 00 00 00 00 35 00 00 00 00", 5, api.ErrOrder}, {"3a 00 3a 00", 2, api.ErrOrder}, {"1a 01 02 1a 01 04", 3, api.ErrOrder},
		{"3a 02 28 00 08 01", 4, api.ErrOrder}, {"3a 04 28 00 08 01", 4, api.ErrOrder}, {"22 08 0a 00 12 04 12 01 61 08", 9, api.ErrOrder}, {"22 09 0a 00 12 05 12 01 61 08 01", 9, api.ErrOrder},
		{"22 04 0a 00 12 00 1a 01 02", 6, api.ErrOrder}, {"22 04 0a 00 12 00 28 00 22 05 0a 01 61 12 00", 8, api.ErrOrder},
	} {
		refuses(t, s, "p.M", row(c.b), c.at, c.e)
	}
	reads(t, s, "p.M", row("28 01 3a 02 08 01"), msg(at(5, num(1)), at(7, one(1, num(1)))))
	reads(t, s, "p.M", row("08 01 22 06 0a 00 12 02 08 01 22 07 0a 01 61 12 02 08 01"), msg(at(1, num(1)), at(4, dict(kv("", one(1, num(1))), kv("a", one(1, num(1)))))))
}

func TestOneofs(t *testing.T) { // P1002: members of a oneof beside one another, with others between, of two oneofs, in messages in one another
	s := load(t, `syntax = "proto3"; message M { oneof a { int32 b = 1; M c = 3; bytes d = 5; } oneof e { sint32 f = 2; string g = 4; M h = 7; } int32 i = 6; repeated M l = 8; map<int32, M> m = 9; }`)
	for _, c := range []struct {
		b  string
		at int
		e  api.Errno
	}{
		{"08 00 1a 00", 2, api.ErrBoth}, {"08 00 2a 00", 2, api.ErrBoth}, {"1a 00 2a 00", 2, api.ErrBoth}, {"10 00 22 00", 2, api.ErrBoth}, {"10 00 3a 00", 2, api.ErrBoth}, {"22 00 3a 00", 2, api.ErrBoth},
		{"08 00 10 00 1a 00", 4, api.ErrBoth}, {"08 00 10 00 22 00", 4, api.ErrBoth}, {"08 00 10 00 2a 00", 4, api.ErrBoth}, {"08 00 30 01 3a 00 42 00 42 03 08 00 1a 00", 12, api.ErrBoth}, {"08 00 42 00 42 04 08 00 1a 00", 8, api.ErrBoth},
		{"10 00 30 01 3a 00", 4, api.ErrBoth}, {"3a 04 08 00 2a 00", 4, api.ErrBoth}, {"4a 08 08 00 12 04 08 00 1a 00", 8, api.ErrBoth}, {"1a 02 08 00 2a 00", 4, api.ErrBoth}, {"08 00 08 00", 2, api.ErrOrder}, {"1a 00 08 00", 2, api.ErrOrder},
	} {
		refuses(t, s, "M", row(c.b), c.at, c.e)
	}
	reads(t, s, "M", row("08 00 10 00 30 01"), msg(at(1, num(0)), at(2, num(0)), at(6, num(1))))
	reads(t, s, "M", row("10 00 1a 04 08 00 22 00"), msg(at(2, num(0)), at(3, msg(at(1, num(0)), at(4, text(""))))))
	reads(t, s, "M", row("2a 00 3a 02 2a 00 42 02 08 00 42 02 1a 00 4a 06 08 00 12 02 3a 00"), msg(at(5, text("")), at(7, one(5, text(""))), at(8, list(one(1, num(0)), one(3, msg()))), at(9, dict(pair(num(0), one(7, msg()))))))
}

func TestManyOneofs(t *testing.T) { // P1002: as many oneofs as there may be, a member of each there
	text := `syntax = "proto3"; message M {`
	b, v := []byte(nil), msg()
	for i := range api.MaxFields / 2 {
		text += fmt.Sprintf("oneof o%d { int32 a%d = %d; bool b%d = %d; }", i, i, i+1, i, i+1001)
		b, v.Fields = append(b, rows(tag(i+1, 0), row("00"))...), append(v.Fields, at(i+1, num(0)))
	}
	s := load(t, text+"}")
	reads(t, s, "M", b, v)
	for i := range api.MaxFields / 2 {
		answers(t, s, "M", rows(b, tag(i+1001, 0), row("00")), len(b), api.ErrBoth)
	}
}

func TestTagsOrder(t *testing.T) { // P1002: two faults of one tag: the first of the order is told
	s := wideSchema()
	// Behind a string at 110 and a member at 103: what comes next.
	ahead := rows(row("18 01"), tag(member+3, 0), row("01"), record(tail, []byte("x")))
	behind := func(b []byte, want api.Errno) {
		t.Helper()
		refuses(t, s, "w.W", rows(ahead, b), len(ahead), want)
	}
	longer := func(number, kind int) []byte {
		b := tag(number, kind)
		b[len(b)-1] |= 0x80
		return append(b, 0)
	}
	behind(tag(0, 7), api.ErrNumber)                              // and a kind that is none
	behind(tag(0, 3), api.ErrNumber)                              // and a stranger, behind the order
	behind(tag(1<<29, 6), api.ErrNumber)                          // and a kind that is none
	behind(longer(0, 0), api.ErrLonger)                           // and no field's number
	behind(longer(3, 7), api.ErrLonger)                           // and a kind that is none
	behind(longer(19, 0), api.ErrLonger)                          // and a stranger
	behind(longer(3, 5), api.ErrLonger)                           // and a wrong kind, behind the order
	behind(longer(member+4, 0), api.ErrLonger)                    // and behind the order, a second member
	behind(tag(19, 6), api.ErrKind)                               // and a stranger
	behind(tag(3, 7), api.ErrKind)                                // and a wrong kind
	behind(tag(19, 3), api.ErrStranger)                           // and behind the order
	behind(tag(19, 0), api.ErrStranger)                           // and behind the order
	behind(tag(3, 5), api.ErrWire)                                // and behind the order
	behind(tag(member+4, 1), api.ErrWire)                         // and behind the order, a second member
	behind(tag(member+4, 0), api.ErrOrder)                        // and a second member
	behind(tag(member+3, 0), api.ErrOrder)                        // and the same member
	behind(tag(tail, 2), api.ErrOrder)                            // and nothing behind it
	behind(tag(3, 0), api.ErrOrder)                               // and nothing behind it
	behind(tag(19, 0), api.ErrStranger)                           // and nothing behind it
	behind(rows(tag(3, 0), row("00")), api.ErrOrder)              // and a zero
	behind(rows(tag(far, 5), row("00")), api.ErrWire)             // and bytes that run out
	behind(rows(tag(repeated+3, 2), row("00")), api.ErrOrder)     // and an empty block
	behind(rows(tag(mapped+3, 2), row("00")), api.ErrOrder)       // and no pair
	behind(rows(tag(api.TString, 2), row("01 ff")), api.ErrOrder) // and not UTF-8

	// The second member of a oneof, of which nothing else is wrong or what stands in it is.
	ahead = rows(tag(member+3, 0), row("01"))
	behind(tag(member+4, 0), api.ErrBoth)
	behind(rows(tag(member+4, 0), row("80 00")), api.ErrBoth)
	behind(rows(tag(member+api.TString, 2), row("01 ff")), api.ErrBoth)
	behind(tag(member+4, 5), api.ErrWire)
	behind(tag(member+3, 0), api.ErrOrder)
	behind(tag(member+2, 5), api.ErrOrder)
}

// deep is a message of so many levels, by fields of their types; its last record begins behind.
func deep(levels int, b []byte) []byte {
	for range levels - 1 {
		b = record(api.TMessage, b)
	}
	return b
}

func TestDepthOrder(t *testing.T) { // P1002: in the 64th message: ErrDepth is the last of a tag's faults, and ahead of what stands in the record
	s := wideSchema()
	for _, c := range []struct {
		b  []byte
		at int
		e  api.Errno
	}{
		{record(api.TMessage), 0, api.ErrDepth}, {record(optional + api.TMessage), 0, api.ErrDepth}, {record(repeated + api.TMessage), 0, api.ErrDepth}, {record(mapped+api.TMessage, row("0a 00 12 00")), 0, api.ErrDepth}, {record(member + api.TMessage), 0, api.ErrDepth},
		{record(ofV), 0, api.ErrDepth}, {record(listV), 0, api.ErrDepth}, {record(mapV), 0, api.ErrDepth}, {record(ofU), 0, api.ErrDepth},
		{tag(api.TMessage, 2), 0, api.ErrDepth},                         // and no length
		{rows(tag(api.TMessage, 2), row("80 00")), 0, api.ErrDepth},     // and a length that is longer
		{rows(tag(api.TMessage, 2), row("05")), 0, api.ErrDepth},        // and bytes that run out
		{rows(tag(mapped+api.TMessage, 2), row("00")), 0, api.ErrDepth}, // and no pair
		{record(api.TMessage, row("00")), 0, api.ErrDepth},              // and a fault in it
		{tag(api.TMessage, 0), 0, api.ErrWire},
		{tag(api.TMessage, 6), 0, api.ErrKind},
		{rows(row("f8 ff ff ff 0f 01"), record(api.TMessage)), 6, api.ErrOrder},
		{rows(tag(member+3, 0), row("01"), record(member+api.TMessage)), 3, api.ErrBoth},
		{rows(row("18 01"), record(api.TMessage)), 2, api.ErrDepth},
		{rows(row("18 00"), record(api.TMessage)), 1, api.ErrZero},
		{rows(record(repeated+api.TString), record(repeated+api.TMessage)), 3, api.ErrDepth},
	} {
		b := deep(64, c.b)
		refuses(t, s, "w.W", b, len(b)-len(c.b)+c.at, c.e)
	}
	// What is no message may stand in it, of every card.
	for _, typ := range []int{api.TInt32, api.TString, api.TEnum} {
		for _, base := range []int{single, optional, repeated, mapped, member} {
			f, _ := s.Field("w.W", base+typ)
			v, bad := secondly(s, "w.W", deep(64, sample(f)))
			if bad.err != api.OK {
				t.Fatalf("a second reading: %+v", bad)
			}
			reads(t, s, "w.W", deep(64, sample(f)), v)
		}
	}
}

func TestMostDepth(t *testing.T) { // P1002, P7: 64 and 65 messages in one another, by fields, lists, maps, members, and in turns
	s := wideSchema()
	ways := []struct {
		number int
		bytes  func(number int, b []byte) []byte
		tree   func(v api.Value) api.Value
	}{
		{api.TMessage, nil, nil}, {optional + api.TMessage, nil, nil}, {member + api.TMessage, nil, nil},
		{repeated + api.TMessage, nil, func(v api.Value) api.Value { return list(v) }},
		{mapped + api.TMessage, func(number int, b []byte) []byte { return record(number, row("0a 00"), record(2, b)) }, func(v api.Value) api.Value { return dict(kv("", v)) }},
	}
	for turn := range len(ways) + 1 {
		b, v, last := []byte(nil), msg(), 0
		for k := range 64 {
			way := ways[k%len(ways)]
			if turn < len(ways) {
				way = ways[turn]
			}
			if k == 63 {
				reads(t, s, "w.W", b, v)
			}
			tree, write := way.tree, way.bytes
			if tree == nil {
				tree = func(v api.Value) api.Value { return v }
			}
			if write == nil {
				write = func(number int, b []byte) []byte { return record(number, b) }
			}
			b, v = write(way.number, b), one(way.number, tree(v))
			if k == 0 {
				last = len(b)
			}
		}
		refuses(t, s, "w.W", b, len(b)-last, api.ErrDepth)
		// Two types in turns.
		c := []byte(nil)
		for k := range 64 {
			c = record([]int{2, ofV}[k%2], c)
		}
		refuses(t, s, "w.W", c, len(c)-2, api.ErrDepth)
	}
}

func TestDeepBeside(t *testing.T) { // P1002: what lies deep leaves nothing behind for what stands beside it
	s := smallSchema()
	b, v := []byte(nil), msg()
	for range 62 {
		b, v = record(7, b), one(7, v)
	}
	all, tree := []byte(nil), dict()
	for i := range 4 {
		key := string(rune('a' + i))
		all, tree.List = append(all, record(4, record(1, []byte(key)), record(2, b))...), append(tree.List, kv(key, v))
	}
	reads(t, s, "p.M", all, one(4, tree))
	over := record(4, record(1, []byte("z")), record(2, record(7, b)))
	refuses(t, s, "p.M", rows(all, over), len(all)+len(over)-2, api.ErrDepth)
}
