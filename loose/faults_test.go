package loose_test

import (
	"bytes"
	"slices"
	"testing"

	"sigil/api"
)

// inside is a way to stand in a part that lies in others. The bytes that are put in come as the last ones.
type inside struct {
	name  string
	bytes func(b []byte) []byte
}

// inMessages are the ways to stand in a message of the type w.W.
func inMessages() []inside {
	return []inside{
		{"the top", func(b []byte) []byte { return b }},
		{"behind others", func(b []byte) []byte { return rows(row("18 00 90 01 05"), b) }},
		{"a field", func(b []byte) []byte { return record(api.TMessage, b) }},
		{"a field again", func(b []byte) []byte {
			return rows(record(api.TMessage, row("18 01")), row("18 01"), record(api.TMessage, b))
		}},
		{"an optional field", func(b []byte) []byte { return rows(row("18 01"), record(optional+api.TMessage, b)) }},
		{"a member", func(b []byte) []byte {
			return rows(record(member+api.TString, []byte("x")), record(member+api.TMessage, b))
		}},
		{"a list", func(b []byte) []byte { return rows(record(repeated+api.TMessage), record(repeated+api.TMessage, b)) }},
		{"a pair's message", func(b []byte) []byte { return record(mapped+api.TMessage, row("0a 01 6b"), record(2, b)) }},
		{"a pair's message again", func(b []byte) []byte { return record(mapped+api.TMessage, row("12 00 18 01"), record(2, b)) }},
		{"another type", func(b []byte) []byte { return record(ofV, record(2, b)) }},
		{"deep", func(b []byte) []byte { return deep(61, b) }},
	}
}

// deep is bytes that stand in a message of so many levels, by a field of its type.
func deep(levels int, b []byte) []byte {
	for range levels - 1 {
		b = record(api.TMessage, b)
	}
	return b
}

// inParts are the ways to stand in a part in which the numbers unknown and strange are of no field.
func inParts() []inside {
	return append(inMessages(), []inside{
		{"a pair", func(b []byte) []byte { return record(mapped+api.TInt32, b) }},
		{"behind a pair's key", func(b []byte) []byte { return record(mapped+api.TInt32, row("0a 01 6b"), b) }},
		{"behind a pair's value", func(b []byte) []byte { return record(keyed+api.TBool, row("08 01 10 01"), b) }},
		{"a pair of messages", func(b []byte) []byte { return record(mapped+api.TMessage, row("12 02 18 01"), b) }},
		{"the type U", func(b []byte) []byte { return record(ofU, record(2, row("08 01"), record(2, b))) }},
		{"the type V", func(b []byte) []byte { return record(listV, b) }},
	}...)
}

// inGroups are the ways to stand in a group, in whichever part that is.
func inGroups() []inside {
	var l []inside
	for _, in := range inParts() {
		l = append(l, inside{"a group in " + in.name, func(b []byte) []byte { return in.bytes(rows(tag(unknown, 3), b)) }})
	}
	return append(l,
		inside{"a group of a field's number", func(b []byte) []byte { return rows(row("1b 18"), row("01"), b) }},
		inside{"groups in one another", func(b []byte) []byte { return rows(bytes.Repeat(row("1b 23"), 30), b) }},
		inside{"behind a group in a group", func(b []byte) []byte { return rows(row("1b 1b 18 01 1c 23 24"), b) }},
	)
}

// wrong is a row of bytes that is at fault, at a place of it. Ends: the fault hangs on the end of the part.
type wrong struct {
	b    []byte
	at   int
	e    api.Errno
	ends bool
}

// nines are nine bytes of a varint that goes on.
const nines = "ff ff ff ff ff ff ff ff ff "

// splits are the faults of P1102 that records have of which nothing is known.
func splits() []wrong {
	number, eight, four, length := tag(unknown, 0), tag(unknown, 1), tag(unknown, 5), tag(unknown, 2)
	return []wrong{
		// of a tag
		{row("80"), 0, api.ErrEnds, true}, {row("ff ff ff"), 0, api.ErrEnds, true}, {row(nines), 0, api.ErrEnds, true},
		{row(nines + "02"), 0, api.ErrOver, false}, {row(nines + "7f"), 0, api.ErrOver, false}, {row(nines + "ff"), 0, api.ErrOver, false}, {row(nines + "80 01"), 0, api.ErrOver, false},
		{row("00"), 0, api.ErrNumber, false}, {row("05"), 0, api.ErrNumber, false}, {tag(1<<29, 0), 0, api.ErrNumber, false}, {tag(1<<32, 2), 0, api.ErrNumber, false}, {row(nines + "01"), 0, api.ErrNumber, false}, {row("80 80 80 80 00"), 0, api.ErrNumber, false},
		{tag(unknown, 6), 0, api.ErrKind, false}, {tag(unknown, 7), 0, api.ErrKind, false}, {tag(far, 7), 0, api.ErrKind, false},
		{tag(strange, 4), 0, api.ErrGroup, false}, {tag(far, 4), 0, api.ErrGroup, false}, {longer(tag(strange, 4), 10), 0, api.ErrGroup, false},
		// of a number
		{number, 2, api.ErrEnds, true}, {rows(number, row("80 80")), 2, api.ErrEnds, true}, {rows(number, row(nines+"02")), 2, api.ErrOver, false}, {rows(number, row(nines+"80")), 2, api.ErrOver, false},
		{eight, 2, api.ErrEnds, true}, {rows(eight, make([]byte, 7)), 2, api.ErrEnds, true}, {four, 2, api.ErrEnds, true}, {rows(four, make([]byte, 3)), 2, api.ErrEnds, true},
		// of a length
		{length, 2, api.ErrEnds, true}, {rows(length, row("80")), 2, api.ErrEnds, true}, {rows(length, row("01")), 2, api.ErrEnds, true}, {rows(length, row("05 61 61 61 61")), 2, api.ErrEnds, true}, {rows(length, row(nines+"02")), 2, api.ErrOver, false},
		{rows(length, row(nines+"01")), 2, api.ErrEnds, false}, {rows(length, row("80 80 80 80 80 80 80 80 80 01")), 2, api.ErrEnds, false}, {rows(length, row("ff ff ff ff 0f")), 2, api.ErrEnds, false}, {rows(length, row("80 80 80 80 80 80 80 80 40")), 2, api.ErrEnds, false},
		// in a group, and of one that is open
		{tag(strange, 3), 2, api.ErrEnds, true}, {rows(tag(strange, 3), row("18 01")), 4, api.ErrEnds, true}, {rows(tag(strange, 3), tag(strange, 3), tag(strange, 4)), 6, api.ErrEnds, true},
		{rows(tag(strange, 3), row("80")), 2, api.ErrEnds, true}, {rows(tag(strange, 3), row("18")), 3, api.ErrEnds, true}, {rows(tag(strange, 3), row("72 05 61")), 3, api.ErrEnds, true}, {rows(tag(strange, 3), row("4d 01")), 3, api.ErrEnds, true},
		{rows(tag(strange, 3), row("00")), 2, api.ErrNumber, false}, {rows(tag(strange, 3), row("0e")), 2, api.ErrKind, false}, {rows(tag(strange, 3), row("1c")), 2, api.ErrGroup, false}, {rows(tag(strange, 3), row("18 "+nines+"02")), 3, api.ErrOver, false}, {rows(tag(strange, 3), row("1b 1c 1c")), 4, api.ErrGroup, false}, {rows(tag(strange, 3), tag(far, 3), tag(strange, 4)), 7, api.ErrGroup, false},
		{rows(tag(strange, 3), tag(strange, 4), tag(strange, 4)), 4, api.ErrGroup, false},
	}
}

// typed are the faults that hang on the fields of w.W.
func typed() []wrong {
	const ints, words, longs = repeated + api.TInt32, repeated + api.TFixed32, repeated + api.TDouble
	return []wrong{
		{row("1c"), 0, api.ErrGroup, false}, {row("1e"), 0, api.ErrKind, false}, {row("1b"), 1, api.ErrEnds, true}, {row("1b 24"), 1, api.ErrGroup, false},
		{row("18"), 1, api.ErrEnds, true}, {row("18 ff"), 1, api.ErrEnds, true}, {row("18 " + nines + "02"), 1, api.ErrOver, false}, {row("4d 00 00 00"), 1, api.ErrEnds, true}, {row("51 00 00 00 00 00 00 00"), 1, api.ErrEnds, true},
		{row("1d 00 00 00"), 1, api.ErrEnds, true}, {row("1a 01"), 1, api.ErrEnds, true}, {row("48 " + nines + "02"), 1, api.ErrOver, false}, // passed over
		{row("72"), 1, api.ErrEnds, true}, {row("72 02 61"), 1, api.ErrEnds, true}, {row("72 " + nines + "02"), 1, api.ErrOver, false}, {row("7a " + nines + "01"), 1, api.ErrEnds, false},
		{row("72 03 61 62 c3"), 4, api.ErrUtf8, false}, {record(optional+api.TString, row("ff")), 3, api.ErrUtf8, false}, {record(repeated+api.TString, row("61 80")), 4, api.ErrUtf8, false}, {record(member+api.TString, row("ed a0 80")), 3, api.ErrUtf8, false},
		// in a block
		{rows(tag(ints, 2), row("02 01")), 2, api.ErrEnds, true}, {rows(tag(ints, 2), row(nines+"01")), 2, api.ErrEnds, false}, {record(ints, row("80")), 3, api.ErrEnds, false}, {record(ints, row("01 02 80 80")), 5, api.ErrEnds, false}, {record(ints, row("01 "+nines+"02")), 4, api.ErrOver, false}, {record(ints, row(nines+"80")), 3, api.ErrOver, false},
		{record(words, make([]byte, 3)), 3, api.ErrEnds, false}, {record(words, make([]byte, 6)), 7, api.ErrEnds, false}, {record(longs, make([]byte, 15)), 11, api.ErrEnds, false},
		// in a message
		{rows(tag(api.TMessage, 2), row("01")), 2, api.ErrEnds, true}, {rows(tag(api.TMessage, 2), row(nines+"02")), 2, api.ErrOver, false}, {record(api.TMessage, row("18")), 4, api.ErrEnds, false}, {record(api.TMessage, row("1b")), 4, api.ErrEnds, false}, {record(api.TMessage, row("72 01 ff")), 5, api.ErrUtf8, false}, {record(api.TMessage, record(api.TMessage, row("1c"))), 6, api.ErrGroup, false},
		{rows(record(api.TMessage, row("1b")), row("1c")), 4, api.ErrEnds, false}, {rows(row("1b"), record(api.TMessage, row("1c"))), 5, api.ErrEnds, true}, // a group lies in one part
		// in a pair
		{rows(tag(mapped+api.TBool, 2), row("03 0a 00")), 2, api.ErrEnds, true}, {record(mapped+api.TBool, row("0a")), 4, api.ErrEnds, false}, {record(mapped+api.TBool, row("0a 02 61")), 4, api.ErrEnds, false}, {record(mapped+api.TBool, row("0a 01 ff")), 5, api.ErrUtf8, false}, {record(mapped+api.TBool, row("0a 01 ff 0a 00")), 5, api.ErrUtf8, false}, {record(mapped+api.TString, row("12 01 ff 12 00")), 5, api.ErrUtf8, false},
		{record(mapped+api.TBool, row("10")), 4, api.ErrEnds, false}, {record(mapped+api.TBool, row("00")), 3, api.ErrNumber, false}, {record(mapped+api.TBool, row("0c")), 3, api.ErrGroup, false}, {record(mapped+api.TBool, row("0b")), 4, api.ErrEnds, false}, {record(mapped+api.TBool, row("0b 14")), 4, api.ErrGroup, false}, {record(mapped+api.TMessage, row("12 01 18")), 6, api.ErrEnds, false}, {record(mapped+api.TMessage, row("12 00 12 01 00")), 7, api.ErrNumber, false}, {record(keyed+api.TFixed32, row("0d 01 02 03")), 4, api.ErrEnds, false},
	}
}

func TestEachFault(t *testing.T) { // P1102: each fault by itself: at the top, in messages, pairs, groups
	s := wideSchema()
	look := func(c wrong, l []inside) {
		t.Helper()
		for _, in := range l {
			b := in.bytes(c.b)
			if !bytes.HasSuffix(b, c.b) {
				t.Fatalf("%s: the bytes are not the last ones", in.name)
			}
			place := len(b) - len(c.b) + c.at
			refuses(t, s, "w.W", b, place, c.e)
			if want := secondly(s, "w.W", b); want.bad != (stop{place, c.e}) {
				t.Errorf("a second reading of %s: %+v, want %v at %d", some(b), want.bad, c.e, place)
			}
		}
	}
	for _, c := range splits() {
		look(c, slices.Concat(inParts(), inGroups()))
	}
	for _, c := range typed() {
		look(c, inMessages())
	}
}

func TestTwoFaults(t *testing.T) { // P1102: every two faults, in some of the parts, each fault in all of them: the left one is told
	s := wideSchema()
	type two struct {
		l   []wrong
		ins []inside
	}
	for _, c := range []two{{splits(), slices.Concat(inParts(), inGroups())}, {typed(), inMessages()}} {
		for i, first := range c.l {
			for j, then := range c.l {
				for k, in := range c.ins {
					if first.ends || (i+j+k)%5 > 0 { // each of them in a fifth of the parts
						continue
					}
					b := in.bytes(rows(first.b, then.b))
					refuses(t, s, "w.W", b, len(b)-len(first.b)-len(then.b)+first.at, first.e)
				}
			}
		}
	}
}

func TestTwoFaultsInABlock(t *testing.T) { // P1102: in one block: the left number is told; a length that reaches too far ahead of what is in it; a block's fault ahead of what is behind it
	s := wideSchema()
	const ints, words = repeated + api.TInt32, repeated + api.TFixed32
	over, open := row(nines+"02"), row("80 80")
	for _, in := range inMessages() {
		look := func(b []byte, place int, want api.Errno) {
			t.Helper()
			all := in.bytes(b)
			refuses(t, s, "w.W", all, len(all)-len(b)+place, want)
		}
		look(record(ints, over, over), 3, api.ErrOver)
		look(record(ints, over, open), 3, api.ErrOver)
		look(record(ints, row("05"), over, open), 4, api.ErrOver)
		look(record(ints, row("05 06"), open), 5, api.ErrEnds)
		for _, content := range [][]byte{over, open, rows(row("05"), over), rows(over, open)} {
			look(rows(tag(ints, 2), varint(len(content)+1), content), 2, api.ErrEnds)
		}
		look(rows(tag(words, 2), row("07"), make([]byte, 6)), 2, api.ErrEnds)
		for _, then := range typed() {
			look(rows(record(ints, row("05"), open), then.b), 4, api.ErrEnds)
			look(rows(record(ints, over), then.b), 3, api.ErrOver)
			look(rows(record(words, make([]byte, 6)), then.b), 7, api.ErrEnds)
		}
	}
}

func TestTwoFaultsInTwoParts(t *testing.T) { // P1102: every two faults, one in a part and the other in the part around it, behind it, or (of some of them) ahead
	s := wideSchema()
	numbers := []int{api.TMessage, repeated + api.TMessage, member + api.TMessage}
	for i, c := range slices.Concat(splits(), typed()) {
		for j, d := range slices.Concat(splits(), typed()) {
			b := rows(record(numbers[(i+j)%3], c.b), d.b)
			refuses(t, s, "w.W", b, len(b)-len(d.b)-len(c.b)+c.at, c.e)
			if !d.ends && (i+j)%4 == 0 {
				refuses(t, s, "w.W", rows(d.b, b), d.at, d.e)
			}
			if (i+j)%5 == 0 {
				b = rows(record(mapped+api.TMessage, record(2, c.b), d.b), d.b)
				refuses(t, s, "w.W", b, len(b)-2*len(d.b)-len(c.b)+c.at, c.e)
			}
		}
	}
}

func TestFaultsOfOneTag(t *testing.T) { // P1102: two faults of one tag: the first of the order is told
	s := wideSchema()
	at64 := func(b []byte, place int, want api.Errno) {
		t.Helper()
		all := deep(64, b)
		refuses(t, s, "w.W", all, len(all)-len(b)+place, want)
	}
	for _, c := range []struct {
		b []byte
		e api.Errno
	}{
		{row("07"), api.ErrNumber}, {row("06"), api.ErrNumber}, {row("04"), api.ErrNumber}, {row("03"), api.ErrNumber}, {tag(1<<29, 7), api.ErrNumber}, {tag(1<<29, 4), api.ErrNumber}, {tag(1<<29, 3), api.ErrNumber},
		{row(nines + "07"), api.ErrOver}, {row("80 80 80 80 80 80 80 80 80 02"), api.ErrOver}, // and of the number 0
		{row("1f"), api.ErrKind}, {row("1c"), api.ErrGroup},
	} {
		refuses(t, s, "w.W", c.b, 0, c.e)
		at64(c.b, 0, c.e)
	}
	// In the 64th message: ErrDepth is the last of a tag's faults, and ahead of what is behind the tag.
	for _, b := range [][]byte{
		tag(api.TMessage, 2), rows(tag(api.TMessage, 2), row("80")), rows(tag(api.TMessage, 2), row("05")), rows(tag(api.TMessage, 2), row(nines+"02")), record(api.TMessage, row("00")),
		tag(mapped+api.TMessage, 2), record(mapped+api.TMessage, row("00")), record(mapped+api.TMessage, row("0a 01 ff")), rows(tag(mapped+api.TMessage, 2), row("05")),
		tag(unknown, 3), rows(tag(unknown, 3), row("00")), rows(tag(unknown, 3), tag(strange, 4)), row("1b"),
	} {
		at64(b, 0, api.ErrDepth)
		at64(rows(row("18 01"), b), 2, api.ErrDepth)
		at64(rows(row("72 01 ff"), b), 2, api.ErrUtf8)
		at64(rows(row("00"), b), 0, api.ErrNumber)
		at64(rows(b, row("00")), 0, api.ErrDepth)
	}
	at64(tag(api.TMessage, 6), 0, api.ErrKind)
	at64(tag(api.TMessage, 0), 2, api.ErrEnds)
	at64(tag(mapped+api.TMessage, 5), 2, api.ErrEnds)
}

func TestNothingBehindAFault(t *testing.T) { // P1102: the first fault from the left is told, whatever stands behind it
	s := wideSchema()
	for _, c := range typed() {
		for _, in := range inMessages() {
			if c.ends {
				continue
			}
			b := in.bytes(c.b)
			if in.name != "the top" && in.name != "behind others" {
				for _, more := range [][]byte{row("00"), row("1c"), row("18 01"), row("80")} {
					refuses(t, s, "w.W", rows(b, more), len(b)-len(c.b)+c.at, c.e)
				}
			}
		}
		if !c.ends {
			far := append(slices.Clone(c.b), bytes.Repeat(row("61"), api.MaxMessage-len(c.b))...)
			refuses(t, s, "w.W", far, c.at, c.e)
		}
	}
}

func TestReplacedAllTheSame(t *testing.T) { // P1102: what is replaced later, or taken away, is read all the same
	s := smallSchema()
	for _, c := range []struct {
		b  string
		at int
		e  api.Errno
	}{
		{"12 01 ff 12 01 61", 2, api.ErrUtf8}, {"3a 01 08 35 00 00 00 00", 3, api.ErrEnds}, {"3a 03 12 01 ff 3a 00", 4, api.ErrUtf8}, {"22 03 0a 01 ff 22 00", 4, api.ErrUtf8},
		{"22 05 12 03 12 01 ff 22 00", 6, api.ErrUtf8}, {"22 07 12 03 12 01 ff 12 00", 6, api.ErrUtf8}, {"22 05 0a 01 ff 0a 00", 4, api.ErrUtf8}, {"35 00 00 00 00 3a 01 0c", 7, api.ErrGroup},
	} {
		refuses(t, s, "p.M", row(c.b), c.at, c.e)
	}
}
