package loose_test

import (
	"strings"
	"testing"

	"sigil/api"
)

// ruins are texts that are not UTF-8, with the place where they are not.
var ruins = []struct {
	s  string
	at int
}{
	{"\xff", 0}, {"\x80", 0}, {"a\xff", 1}, {"ab\xc3", 2}, {"\xc3(", 0}, {"é\x80", 2}, {"\xc0\x80", 0}, {"\xc1\xbf", 0}, {"\xe0\x9f\xbf", 0}, {"x\xed\xa0\x80", 1}, {"\xed\xbf\xbf", 0}, {"\xef\xbf", 0}, {"\xf0\x8f\xbf\xbf", 0},
	{"\xf4\x90\x80\x80", 0}, {"\xf5\x80\x80\x80", 0}, {"\xf0\x9f\x98", 0}, {"€\xe2\x82", 3}, {"aé€😀\xfe", 10}, {"\ufffd\xff\ufffd", 3},
}

// sounds are texts that are.
var sounds = []string{"", "a", "\x00", "\x7f", "\u0080", "é", "\u07ff", "\u0800", "\ud7ff", "\ue000", "\ufffd", "\uffff", "\U00010000", "\U0010ffff", "aé€😀"}

func TestUtf8(t *testing.T) { // P1102: texts that are not UTF-8: in strings of every card, at their first byte that is not
	s := wideSchema()
	for _, c := range ruins {
		x := []byte(c.s)
		for _, base := range []int{single, optional, repeated, member} {
			b := record(base+api.TString, x)
			refuses(t, s, "w.W", b, len(b)-len(x)+c.at, api.ErrUtf8)
			refuses(t, s, "w.W", rows(b, b, row("00")), len(b)-len(x)+c.at, api.ErrUtf8)
			reads(t, s, "w.W", record(base+api.TBytes, x), decodedAs(base+api.TBytes, c.s))
		}
		b := record(repeated+api.TString, []byte("é"))
		all := rows(b, record(repeated+api.TString, x), b)
		refuses(t, s, "w.W", all, len(all)-len(b)-len(x)+c.at, api.ErrUtf8)
		all = record(mapped+api.TString, row("0a 00"), record(2, x))
		refuses(t, s, "w.W", all, len(all)-len(x)+c.at, api.ErrUtf8)
		all = record(mapped+api.TInt32, record(1, x))
		refuses(t, s, "w.W", all, len(all)-len(x)+c.at, api.ErrUtf8)
		reads(t, s, "w.W", record(mapped+api.TBytes, record(2, x)), one(mapped+api.TBytes, dict(kv("", text(c.s)))))
	}
	for _, x := range sounds {
		for _, base := range []int{optional, repeated, member} {
			reads(t, s, "w.W", record(base+api.TString, []byte(x)), decodedAs(base+api.TString, x))
			reads(t, s, "w.W", record(base+api.TBytes, []byte(x)), decodedAs(base+api.TBytes, x))
		}
		reads(t, s, "w.W", record(mapped+api.TString, record(1, []byte(x)), record(2, []byte(x))), one(mapped+api.TString, dict(kv(x, text(x)))))
	}
}

// decodedAs is the message whose field holds a text, in a list if it is one.
func decodedAs(number int, x string) api.Value {
	if number > repeated && number < mapped {
		return one(number, list(text(x)))
	}
	if number < optional && x == "" {
		return msg()
	}
	return one(number, text(x))
}

func TestUtf8PassedOver(t *testing.T) { // P1102: of a text that is passed over nothing is looked at
	s := wideSchema()
	for _, c := range ruins {
		x := []byte(c.s)
		reads(t, s, "w.W", record(unknown, x), msg(), skip(0, unknown, 2))
		reads(t, s, "w.W", record(3, x), msg(), skip(0, 3, 2))
		reads(t, s, "w.W", rows(row("73"), record(api.TString, x), row("74")), msg(), skip(0, api.TString, 3))
		reads(t, s, "w.W", record(mapped+api.TInt32, record(2, x)), one(mapped+api.TInt32, dict(kv("", num(0)))), skip(3, 2, 2, mapped+api.TInt32))
		reads(t, s, "w.W", record(keyed+api.TInt32, record(1, x)), one(keyed+api.TInt32, dict(pair(num(0), num(0)))), skip(3, 1, 2, keyed+api.TInt32))
		reads(t, s, "w.W", record(mapped+api.TInt32, record(3, x)), one(mapped+api.TInt32, dict(kv("", num(0)))), skip(3, 3, 2, mapped+api.TInt32))
	}
	// A message, a pair or a block that is passed over is a text like any other.
	reads(t, s, "w.W", record(unknown, row("08")), msg(), skip(0, unknown, 2))
	reads(t, s, "w.W", record(unknown, row("00 0c ff")), msg(), skip(0, unknown, 2))
	reads(t, s, "w.W", rows(row("1b"), record(api.TMessage, row("00")), record(mapped+3, row("ff")), record(repeated+3, row("80")), row("1c")), msg(), skip(0, 3, 3))
}

func TestLengths(t *testing.T) { // P1102: lengths that reach behind the part's end, by one and by many; such that just fit
	s := wideSchema()
	for _, kind := range []struct {
		number int
		around func(b []byte) []byte
	}{
		{api.TBytes, func(b []byte) []byte { return b }},
		{api.TBytes, func(b []byte) []byte { return record(api.TMessage, b) }},
		{2, func(b []byte) []byte { return record(mapped+api.TBytes, b) }},
		{unknown, func(b []byte) []byte { return b }},
		{unknown, func(b []byte) []byte { return record(repeated+api.TMessage, b) }},
		{api.TMessage, func(b []byte) []byte { return b }},
		{mapped + api.TMessage, func(b []byte) []byte { return b }},
		{repeated + api.TInt32, func(b []byte) []byte { return b }},
		{repeated + api.TInt32, func(b []byte) []byte { return record(api.TMessage, b) }},
	} {
		in := row("18 01 18 02")
		b := kind.around(record(kind.number, in))
		if _, _, e := decoded(s, "w.W", b); e != api.OK {
			t.Errorf("P1102: %s: %v", some(b), e)
		}
		for _, n := range []int{5, 6, 127, 128, 1 << 20, 1 << 32, 1 << 62, -1, -1 << 63, -5} {
			b := kind.around(rows(tag(kind.number, 2), varint(n), in))
			refuses(t, s, "w.W", b, len(b)-len(in)-len(varint(n)), api.ErrEnds)
			if !strings.HasPrefix(string(b), string(tag(kind.number, 2))) { // more bytes behind the part do not help
				refuses(t, s, "w.W", rows(b, row("18 01 18 01")), len(b)-len(in)-len(varint(n)), api.ErrEnds)
			}
		}
	}
}
