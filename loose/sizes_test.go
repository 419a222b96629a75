package loose_test

import (
	"bytes"
	"strings"
	"testing"

	"sigil/api"
)

// negatives are so many numbers of a list, each of five bytes that mean ten.
func negatives(n int) []byte {
	return record(repeated+api.TInt32, bytes.Repeat(row("ff ff ff ff 0f"), n))
}

func TestTooLarge(t *testing.T) { // P1101: trees whose canonical bytes are MaxMessage, and one more, of fewer bytes than that
	s := wideSchema()
	const n = 104000
	head := len(tag(repeated+api.TInt32, 2)) + 3 // and its length
	left := api.MaxMessage - head - 10*n         // for a text of another field
	room := left - 1 - 2                         // without its tag and its length, of two bytes
	l := list()
	for range n {
		l.List = append(l.List, num(-1))
	}
	x := strings.Repeat("x", room)
	reads(t, s, "w.W", rows(negatives(n), record(api.TString, []byte(x))), msg(at(api.TString, text(x)), at(repeated+api.TInt32, l)))
	tooLarge(t, s, "w.W", rows(negatives(n), record(api.TString, []byte(x+"x"))))
	tooLarge(t, s, "w.W", negatives(n+1000))
	tooLarge(t, s, "w.W", record(api.TMessage, negatives(n+1000)))
}

func TestTooLargeOtherwise(t *testing.T) { // P1101: trees that become too large by pairs whose keys and values were not written, by numbers one by one, by what is merged
	s := wideSchema()
	var pairs []byte
	for i := 0; len(pairs) < 1<<20-16; i++ {
		pairs = append(pairs, record(keyed+api.TInt32, tag(1, 0), varint(i+1<<14))...)
	}
	tooLarge(t, s, "w.W", pairs)
	tooLarge(t, s, "w.W", bytes.Repeat(rows(tag(repeated+api.TEnum, 0), row("ff ff ff ff 0f")), 149000))
	half := negatives(60000)
	tooLarge(t, s, "w.W", rows(record(api.TMessage, half), record(api.TMessage, half)))
	// What is replaced does not count.
	reads(t, s, "w.W", rows(record(mapped+api.TMessage, record(2, half)), record(mapped+api.TMessage, record(2, half)), record(mapped+api.TMessage)), one(mapped+api.TMessage, dict(kv("", msg()))))
	reads(t, s, "w.W", rows(record(member+api.TMessage, half), record(member+api.TMessage, half), record(member+api.TString)), one(member+api.TString, text("")))
	reads(t, s, "w.W", rows(record(api.TString, bytes.Repeat(row("61"), 1<<19)), record(api.TString, []byte("b"))), one(api.TString, text("b")))
}

func TestTooLargeBehindAll(t *testing.T) { // P13: ErrSize is behind all other errors
	s := wideSchema()
	b := negatives(104900)
	tooLarge(t, s, "w.W", b)
	for i, c := range typed() {
		if i%8 == 0 {
			refuses(t, s, "w.W", rows(b, c.b), len(b)+c.at, c.e)
		}
	}
	skipped := rows(record(unknown, row("01")), b, tag(strange, 0), row("01"))
	tooLarge(t, s, "w.W", skipped)
	if a := ask(s, "w.W", skipped); !sameSkips(a.skips, []api.Skip{skip(0, unknown, 2), skip(len(skipped)-3, strange, 0)}) {
		t.Errorf("P1107: Skipped of a tree that is too large: %v", a.skips)
	}
}
