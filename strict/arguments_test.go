package strict_test

import (
	"fmt"
	"strings"
	"testing"

	"sigil/api"
	"sigil/bind"
)

// longName is a schema with a message whose name is as long as that of a message may be, and one that holds it.
func longName(t *testing.T) (*bind.Schema, string) {
	name := strings.Repeat("n", api.MaxName-1)
	return load(t, fmt.Sprintf(`syntax = "proto3"; message %s { int32 a = 1; } message M { %s m = 1; }`, name, name)), name
}

func TestNames(t *testing.T) { // P1001: names of MaxName bytes and of one more, such that the schema has not
	s, name := longName(t)
	reads(t, s, name, row("08 01"), one(1, num(1)))
	reads(t, s, "M", row("0a 02 08 01"), one(1, one(1, num(1))))
	for _, b := range [][]byte{nil, row("08 01"), row("ff"), make([]byte, api.MaxMessage), make([]byte, api.MaxMessage+1)} {
		answers(t, s, name+"nn", b, 0, api.ErrLong)
		answers(t, s, strings.Repeat("m", api.MaxName+1), b, 0, api.ErrLong)
		answers(t, s, strings.Repeat("n", 100000), b, 0, api.ErrLong)
		answers(t, s, name+"n", b, 0, api.ErrName)
		answers(t, s, strings.Repeat("m", api.MaxName), b, 0, api.ErrName)
		answers(t, s, "", b, 0, api.ErrName)
	}
	for _, name := range []string{"", "W", "w", "w.", ".w.W", "w.w", "w.W ", "w.E", "w.W.s1", "w.X", "\xff", "int32"} {
		answers(t, wideSchema(), name, nil, 0, api.ErrName)
		answers(t, wideSchema(), name, row("08 01"), 0, api.ErrName)
		answers(t, wideSchema(), name, make([]byte, api.MaxMessage+1), 0, api.ErrName)
	}
}

func TestLongRows(t *testing.T) { // P1001: rows of MaxMessage bytes and of one more, right ones and wrong ones
	s := wideSchema()
	const most = api.MaxMessage
	x := strings.Repeat("x", most-4)
	reads(t, s, "w.W", record(api.TBytes, []byte(x)), one(api.TBytes, text(x)))
	answers(t, s, "w.W", record(api.TBytes, []byte(x+"x")), 0, api.ErrLong)
	key := x[:most-11]
	reads(t, s, "w.W", record(mapped+api.TString, record(1, []byte(key)), row("12 00")), one(mapped+api.TString, dict(kv(key, text("")))))
	answers(t, s, "w.W", record(mapped+api.TString, record(1, []byte(key+"x")), row("12 01 61")), 0, api.ErrLong)

	zeros := make([]byte, most+1)
	refuses(t, s, "w.W", zeros[:most], 0, api.ErrNumber)
	answers(t, s, "w.W", zeros, 0, api.ErrLong)
	refuses(t, s, "w.W", append(record(api.TBytes, []byte(x[:most-6])), 0x78, 0x00), most-2, api.ErrWire)
	refuses(t, s, "w.W", append(record(api.TBytes, []byte(x[:most-5])), 0x80), most-1, api.ErrEnds)
	answers(t, s, "w.W", append(record(api.TBytes, []byte(x[:most-5])), 0x80, 0x80), 0, api.ErrLong)
}

func TestManyValues(t *testing.T) { // P1001: as many values as MaxMessage bytes can hold
	s := wideSchema()
	bools := make([]byte, api.MaxMessage-5)
	v := list()
	for i := range bools {
		bools[i] = byte(i & 1)
		v.List = append(v.List, num(i&1))
	}
	reads(t, s, "w.W", record(repeated+api.TBool, bools), one(repeated+api.TBool, v))
	bools[len(bools)-1] = 2
	answers(t, s, "w.W", record(repeated+api.TBool, bools), api.MaxMessage-1, api.ErrForm)

	empty := record(repeated + api.TMessage)
	b, l := []byte(nil), list()
	for len(b) <= api.MaxMessage-len(empty) {
		b, l.List = append(b, empty...), append(l.List, msg())
	}
	reads(t, s, "w.W", b, one(repeated+api.TMessage, l))
}

func TestManyPairs(t *testing.T) { // P1006: many pairs of a map, and one at the end whose key does not rise
	s := wideSchema()
	b, v := []byte(nil), dict()
	for i := range 30000 {
		key := fmt.Sprintf("%05d", i)
		b, v.List = append(b, record(keyed+api.TString, record(1, []byte(key)), row("10 00"))...), append(v.List, kv(key, num(0)))
	}
	reads(t, s, "w.W", b, one(keyed+api.TString, v))
	n := len(b)
	refuses(t, s, "w.W", rows(b, record(keyed+api.TString, record(1, []byte("29999")), row("10 00"))), n+4, api.ErrKeys)
	refuses(t, s, "w.W", rows(b, record(keyed+api.TString, record(1, []byte("2")), row("10 00"))), n+4, api.ErrKeys)
}
