package strict_test

import (
	"strings"
	"testing"

	"sigil/api"
)

// textCards are the cards, and that of a map's key; of each, where the text is the last that stands in the record.
func textCards() []card {
	key := card{"a map's key", keyed, func(number, kind int, b []byte) []byte { return record(number, tag(1, kind), b) }, nil}
	return append(cards(), key)
}

func TestTexts(t *testing.T) { // P1004: texts by every card, of all lengths of their length
	for _, typ := range []int{api.TString, api.TBytes} {
		for _, n := range []int{0, 1, 2, 126, 127, 128, 129, 16383, 16384, 70000} {
			x := strings.Repeat("x", n)
			content := rows(varint(n), []byte(x))
			for _, d := range cards() {
				all := d.bytes(d.number+typ, 2, content)
				if n == 0 && d.number == single {
					refuses(t, wideSchema(), "w.W", all, len(all)-1, api.ErrZero)
					continue
				}
				reads(t, wideSchema(), "w.W", all, one(d.number+typ, d.tree(text(x))))
			}
			if typ == api.TString {
				reads(t, wideSchema(), "w.W", record(keyed+typ, tag(1, 2), content, row("10 00")), one(keyed+typ, dict(kv(x, num(0)))))
			}
			reads(t, wideSchema(), "w.W", rows(record(repeated+typ, []byte(x)), record(repeated+typ, []byte("y")), record(repeated+typ, []byte(x))), one(repeated+typ, list(text(x), text("y"), text(x))))
		}
	}
}

func TestTextsThatEnd(t *testing.T) { // P1004: lengths that end, or are none, and texts that reach beyond the end: of all, of a message, of a pair
	s := wideSchema()
	lengths := []struct {
		b string
		e api.Errno
	}{
		{"", api.ErrEnds}, {"80", api.ErrEnds}, {"ff ff ff", api.ErrEnds}, {"01", api.ErrEnds}, {"02 61", api.ErrEnds}, {"7f 61 61", api.ErrEnds}, {"80 01 61", api.ErrEnds}, {"80 80 80 01 61", api.ErrEnds},
		{"ff ff ff ff 07 61", api.ErrEnds}, {"80 80 80 80 10 61", api.ErrEnds}, {"81 80 80 80 10 61", api.ErrEnds}, {"ff ff ff ff ff ff ff ff 7f 61", api.ErrEnds}, {"80 80 80 80 80 80 80 80 80 01 61", api.ErrEnds}, {"ff ff ff ff ff ff ff ff ff 01 61", api.ErrEnds},
	}
	for _, c := range spoilt {
		lengths = append(lengths, c)
	}
	for _, typ := range []int{api.TString, api.TBytes, api.TMessage} {
		for _, d := range textCards() {
			if d.number == keyed && typ != api.TString {
				continue
			}
			for _, c := range lengths {
				all := d.bytes(d.number+typ, 2, row(c.b))
				place := len(all) - len(row(c.b))
				refuses(t, s, "w.W", all, place, c.e)
				in := record(api.TMessage, all)
				answers(t, s, "w.W", rows(in, row("61 61 61 61")), place+len(in)-len(all), c.e)
				if d.number == mapped || d.number == keyed {
					answers(t, s, "w.W", rows(all, row("61 61 61 61")), place, c.e)
				}
			}
		}
	}
	// Of blocks and pairs likewise.
	for _, number := range []int{repeated + api.TInt32, repeated + api.TFixed64, mapped + api.TInt32, mapped + api.TMessage, keyed + api.TBool} {
		for _, c := range lengths {
			all := rows(tag(number, 2), row(c.b))
			within(t, all, len(tag(number, 2)), c.e)
		}
	}
}

// faulty is a text, and the first place at which it is not UTF-8.
type faulty struct {
	text string
	bad  int
}

// notUtf8 are such texts: each character broken at each place, and others, with and without something ahead.
func notUtf8() []faulty {
	var l []faulty
	for _, x := range []string{"\xff", "\xfe", "\x80", "\xc0\x80", "\xc1\xbf", "\xf5\x80\x80\x80", "\xf8\x88\x80\x80\x80", "\xed\xa0\x80", "\xed\xbf\xbf", "\xe0\x80\x80", "\xe0\x9f\xbf", "\xf0\x80\x80\x80", "\xf0\x8f\xbf\xbf", "\xf4\x90\x80\x80"} {
		l = append(l, faulty{x, 0})
	}
	for _, c := range []string{"é", "\u0800", "€", "\uffff", "\U00010000", "\U0010ffff"} {
		l = append(l, faulty{c + "\xbf", len(c)})
		for i := 1; i < len(c); i++ {
			l = append(l, faulty{c[:i], 0}, faulty{c[i:], 0})
			for _, wrong := range []string{"\x00", "a", "\x7f", "\xc0", "\xff"} {
				l = append(l, faulty{c[:i] + wrong + c[i+1:], 0})
			}
		}
	}
	for _, x := range l {
		for _, ahead := range []string{"a€", "\U0010ffff"} {
			l = append(l, faulty{ahead + x.text, len(ahead) + x.bad})
		}
	}
	return l
}

func TestNotUtf8(t *testing.T) { // P1004: texts that are not UTF-8 at each place of a character, by every card
	s := wideSchema()
	for _, c := range notUtf8() {
		x, bad := c.text, c.bad
		content := rows(varint(len(x)), []byte(x))
		for _, d := range textCards() {
			all := d.bytes(d.number+api.TString, 2, content)
			place := len(all) - len(x) + bad
			refuses(t, s, "w.W", all, place, api.ErrUtf8)
			if d.number != mapped && d.number != keyed { // what would go on behind it
				answers(t, s, "w.W", rows(all, row("bf 80 80")), place, api.ErrUtf8)
			}
			in := record(api.TMessage, all)
			answers(t, s, "w.W", rows(in, row("80 bf 80")), place+len(in)-len(all), api.ErrUtf8)
			if d.number != keyed {
				reads(t, s, "w.W", d.bytes(d.number+api.TBytes, 2, content), one(d.number+api.TBytes, d.tree(text(x))))
			}
		}
	}
}

func TestUtf8(t *testing.T) { // P1004: the first and the last character of each form, by every card
	for _, x := range []string{"\x00", "\x7f", "\u0080", "\u07ff", "\u0800", "\u0fff", "\ucfff", "\ud000", "\ud7ff", "\ue000", "\uffff", "\U00010000", "\U0003ffff", "\U00040000", "\U000fffff", "\U00100000", "\U0010ffff", "aé€\U0010ffff\x00"} {
		for _, d := range cards() {
			reads(t, wideSchema(), "w.W", d.bytes(d.number+api.TString, 2, rows(varint(len(x)), []byte(x))), one(d.number+api.TString, d.tree(text(x))))
		}
		reads(t, wideSchema(), "w.W", record(keyed+api.TString, record(1, []byte(x)), row("10 00")), one(keyed+api.TString, dict(kv(x, num(0)))))
	}
}

func TestMessagesOfAllLengths(t *testing.T) { // P1005: messages by every card, of all lengths of their length, each within its own bytes
	s := wideSchema()
	const typ = api.TMessage
	for _, n := range []int{0, 1, 125, 126, 127, 128, 16380, 16381, 16382, 70000} {
		in, b := msg(), []byte(nil)
		if n > 0 {
			in, b = one(api.TBytes, text(strings.Repeat("x", n))), record(api.TBytes, []byte(strings.Repeat("x", n)))
		}
		content := rows(varint(len(b)), b)
		for _, d := range cards() {
			reads(t, s, "w.W", d.bytes(d.number+typ, 2, content), one(d.number+typ, d.tree(in)))
		}
		reads(t, s, "w.W", rows(record(repeated+typ, b), record(repeated+typ), record(repeated+typ, b)), one(repeated+typ, list(in, msg(), in)))
		// A length that is one too small, or one too great: with a byte behind it that fits.
		if n > 0 {
			less := rows(tag(typ, 2), varint(len(b)-1), b)
			refuses(t, s, "w.W", less, len(tag(typ, 2))+len(varint(len(b)-1))+1, api.ErrEnds)
		}
		refuses(t, s, "w.W", rows(tag(typ, 2), varint(len(b)+1), b), len(tag(typ, 2)), api.ErrEnds)
	}
}

func TestListsKeepTheirOrder(t *testing.T) { // P1005: the values of a list in their order, the same ones too
	reads(t, smallSchema(), "p.M", row("1a 05 04 04 01 00 02"), one(3, list(num(2), num(2), num(-1), num(0), num(1))))
	s := wideSchema()
	reads(t, s, "w.W", row("b2 03 01 62 b2 03 00 b2 03 01 61 b2 03 01 62"), one(repeated+api.TString, list(text("b"), text(""), text("a"), text("b"))))
	reads(t, s, "w.W", row("ca 0c 02 08 01 ca 0c 00 ca 0c 02 08 02"), one(listV, list(one(1, num(-1)), msg(), one(1, num(1)))))
	// Two lists beside one another, and each in the messages of the other.
	both := rows(record(repeated+api.TString, []byte("a")), record(repeated+api.TString, []byte("b")), record(repeated+api.TBytes, []byte("c")), record(repeated+api.TBytes, []byte("d")))
	v := msg(at(repeated+api.TString, list(text("a"), text("b"))), at(repeated+api.TBytes, list(text("c"), text("d"))))
	stands(t, both, v)
	reads(t, s, "w.W", rows(record(repeated+api.TMessage, both), record(repeated+api.TMessage, both)), one(repeated+api.TMessage, list(v, v)))
	refuses(t, s, "w.W", rows(both, both), len(both), api.ErrOrder)
}
