package loose_test

import (
	"fmt"
	"strings"
	"testing"

	"sigil/api"
	"sigil/bind"
)

// longName is a schema with a message whose name is as long as that of a message may be, and one that holds it.
func longName(t *testing.T) (*bind.Schema, string) {
	name := strings.Repeat("n", api.MaxName-1)
	return load(t, fmt.Sprintf(`syntax = "proto3"; message %s { int32 a = 1; } message M { %s m = 1; }`, name, name)), name
}

func TestNames(t *testing.T) { // P1101, P1104, P1106, P1107: names of MaxName bytes and of one more, such that the schema has not
	s, name := longName(t)
	reads(t, s, name, row("08 01"), one(1, num(1)))
	reads(t, s, "M", row("0a 02 08 01"), one(1, one(1, num(1))))
	merges(t, s, name, msg(), one(1, num(1)), one(1, num(1)))
	for _, b := range [][]byte{nil, row("08 01"), row("ff"), make([]byte, api.MaxMessage), make([]byte, api.MaxMessage+1)} {
		refuses(t, s, name+"nn", b, 0, api.ErrLong)
		refuses(t, s, strings.Repeat("m", api.MaxName+1), b, 0, api.ErrLong)
		refuses(t, s, strings.Repeat("n", 100000), b, 0, api.ErrLong)
		refuses(t, s, name+"n", b, 0, api.ErrName)
		refuses(t, s, strings.Repeat("m", api.MaxName), b, 0, api.ErrName)
		refuses(t, s, "", b, 0, api.ErrName)
	}
	for _, name := range []string{"", "W", "w", "w.", ".w.W", "w.w", "w.W ", "w.E", "w.W.s1", "w.X", "\xff", "int32"} {
		refuses(t, wideSchema(), name, nil, 0, api.ErrName)
		refuses(t, wideSchema(), name, row("08 01"), 0, api.ErrName)
		refuses(t, wideSchema(), name, make([]byte, api.MaxMessage+1), 0, api.ErrName)
	}
}

func TestNamesOfTrees(t *testing.T) { // P1104: the name ahead of whatever is wrong with the trees
	s, name := longName(t)
	for _, a := range badTrees() {
		for _, b := range badTrees() {
			parts(t, s, name+"nn", a.v, b.v, api.ErrLong)
			parts(t, s, name+"n", a.v, b.v, api.ErrName)
			parts(t, s, "", a.v, b.v, api.ErrName)
		}
	}
	for _, name := range []string{"", "w", "w.E", "w.X", ".w.W", "w.W.s1"} {
		parts(t, wideSchema(), name, msg(), msg(), api.ErrName)
	}
}

func TestLongRows(t *testing.T) { // P1101: rows of MaxMessage bytes and of one more, right ones and wrong ones
	s := wideSchema()
	const most = api.MaxMessage
	x := strings.Repeat("x", most-4)
	reads(t, s, "w.W", record(api.TBytes, []byte(x)), one(api.TBytes, text(x)))
	refuses(t, s, "w.W", record(api.TBytes, []byte(x+"x")), 0, api.ErrLong)
	passed := record(unknown, []byte(x[:most-5]))
	reads(t, s, "w.W", passed, msg(), skip(0, unknown, 2))
	refuses(t, s, "w.W", record(unknown, []byte(x[:most-4])), 0, api.ErrLong)

	zeros := make([]byte, most+1)
	refuses(t, s, "w.W", zeros[:most], 0, api.ErrNumber)
	refuses(t, s, "w.W", zeros, 0, api.ErrLong)
	refuses(t, s, "w.W", append(record(api.TBytes, []byte(x[:most-5])), 0x0c), most-1, api.ErrGroup)
	refuses(t, s, "w.W", append(record(api.TBytes, []byte(x[:most-5])), 0x80), most-1, api.ErrEnds)
	refuses(t, s, "w.W", append(record(api.TBytes, []byte(x[:most-5])), 0x1b), most, api.ErrEnds)
	refuses(t, s, "w.W", append(record(api.TBytes, []byte(x[:most-5])), 0x80, 0x80), 0, api.ErrLong)
	refuses(t, s, "w.W", record(api.TString, []byte(x[:most-5]+"\xff")), most-1, api.ErrUtf8)
}

func TestManyValues(t *testing.T) { // P1101: as many values as MaxMessage bytes can hold
	s := wideSchema()
	bools := make([]byte, api.MaxMessage-5)
	v := list()
	for i := range bools {
		bools[i] = byte(i & 1)
		v.List = append(v.List, num(i&1))
	}
	reads(t, s, "w.W", record(repeated+api.TBool, bools), one(repeated+api.TBool, v))
	bools[len(bools)-1] = 0x80
	refuses(t, s, "w.W", record(repeated+api.TBool, bools), api.MaxMessage-1, api.ErrEnds)

	empty := record(repeated + api.TMessage)
	b, l := []byte(nil), list()
	for len(b) <= api.MaxMessage-len(empty) {
		b, l.List = append(b, empty...), append(l.List, msg())
	}
	reads(t, s, "w.W", b, one(repeated+api.TMessage, l))
}

func TestManyRecords(t *testing.T) { // P1101: as many records as MaxMessage bytes can hold, each of which takes the place of the last, is merged with it, or takes away another
	s := smallSchema()
	fill := func(b []byte) []byte {
		var all []byte
		for len(all)+len(b) <= api.MaxMessage {
			all = append(all, b...)
		}
		return all
	}
	reads(t, s, "p.M", fill(row("08 01")), one(1, num(1)))
	reads(t, s, "p.M", fill(row("08 01 08 00")), msg())
	reads(t, s, "p.M", fill(row("3a 00")), one(7, msg()))
	reads(t, s, "p.M", fill(row("22 00")), one(4, dict(kv("", msg()))))
	reads(t, s, "p.M", fill(row("1a 00")), msg())
	reads(t, s, "p.M", fill(row("35 00 00 00 00 3a 00")), one(7, msg()))
	reads(t, s, "p.M", fill(row("3a 00 35 00 00 00 00")), one(6, num(0)))
	large := rows(record(7, fill(row("18 02"))[:1<<18]), fill(row("3a 02 08 05"))[:1<<18]) // a long list, then many more merged into the message that holds it
	v, _, e := decoded(s, "p.M", large)
	if in := v.Fields; e != api.OK || len(in) != 1 || len(in[0].Value.Fields) != 2 || len(in[0].Value.Fields[1].Value.List) != 1<<17 {
		t.Errorf("P1101: many merged messages: %s, %v", short(v), e)
	}
}

func TestManyPairs(t *testing.T) { // P1101: many pairs of a map, in no order, each key twice
	s := wideSchema()
	const many = 20000
	b, v := []byte(nil), dict()
	for round := range 2 {
		for i := range many {
			k := i * 7919 % many
			b = append(b, record(keyed+api.TString, record(1, fmt.Appendf(nil, "%05d", k)), tag(2, 0), varint(round+k))...)
		}
	}
	for i := range many {
		v.List = append(v.List, kv(fmt.Sprintf("%05d", i), num(1+i)))
	}
	reads(t, s, "w.W", b, one(keyed+api.TString, v))
}
