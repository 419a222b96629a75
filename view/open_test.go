package view_test

import (
	"bytes"
	"fmt"
	"slices"
	"strings"
	"testing"

	"sigil/api"
	"sigil/view"
)

// nines are nine bytes of a varint that goes on.
const nines = "ff ff ff ff ff ff ff ff ff "

// wrong is a row of bytes that is at fault, at a place of it. Ends: the fault hangs on the end of the piece.
type wrong struct {
	b    []byte
	at   int
	e    api.Errno
	ends bool
}

// longer is a varint of so many bytes that has the same value.
func longer(b []byte, size int) []byte {
	b = slices.Clone(b)
	for len(b) < size {
		b[len(b)-1] |= 0x80
		b = append(b, 0)
	}
	return b
}

// wrongs are the faults that a message of w.W, or a pair, may have that is looked into: those of records of which nothing is known.
func wrongs() []wrong {
	number, eight, four, length, group := tag(unknown, 0), tag(unknown, 1), tag(unknown, 5), tag(unknown, 2), tag(strange, 3)
	return []wrong{
		// of a tag
		{row("80"), 0, api.ErrEnds, true}, {row("ff ff ff"), 0, api.ErrEnds, true}, {row(nines), 0, api.ErrEnds, true},
		{row(nines + "02"), 0, api.ErrOver, false}, {row(nines + "ff"), 0, api.ErrOver, false}, {row(nines + "80 01"), 0, api.ErrOver, false},
		{row("00"), 0, api.ErrNumber, false}, {row("05"), 0, api.ErrNumber, false}, {row("07"), 0, api.ErrNumber, false}, {tag(1<<29, 0), 0, api.ErrNumber, false}, {tag(1<<29, 4), 0, api.ErrNumber, false}, {row(nines + "01"), 0, api.ErrNumber, false},
		{tag(unknown, 6), 0, api.ErrKind, false}, {tag(1, 7), 0, api.ErrKind, false}, {tag(api.MaxNumber, 7), 0, api.ErrKind, false},
		{tag(strange, 4), 0, api.ErrGroup, false}, {tag(1, 4), 0, api.ErrGroup, false}, {longer(tag(strange, 4), 10), 0, api.ErrGroup, false},
		// of a number
		{number, 2, api.ErrEnds, true}, {rows(number, row("80 80")), 2, api.ErrEnds, true}, {rows(number, row(nines+"02")), 2, api.ErrOver, false}, {rows(number, row(nines+"80")), 2, api.ErrOver, false},
		{eight, 2, api.ErrEnds, true}, {rows(eight, make([]byte, 7)), 2, api.ErrEnds, true}, {four, 2, api.ErrEnds, true}, {rows(four, make([]byte, 3)), 2, api.ErrEnds, true},
		// of a length
		{length, 2, api.ErrEnds, true}, {rows(length, row("80")), 2, api.ErrEnds, true}, {rows(length, row("01")), 2, api.ErrEnds, true}, {rows(length, row("05 61 61 61 61")), 2, api.ErrEnds, true}, {rows(length, row(nines+"02")), 2, api.ErrOver, false}, {rows(length, row(nines+"01")), 2, api.ErrEnds, false}, {rows(length, row("ff ff ff ff 0f")), 2, api.ErrEnds, false},
		// of a group
		{group, 2, api.ErrEnds, true}, {rows(group, row("18 01")), 4, api.ErrEnds, true}, {rows(group, group, tag(strange, 4)), 6, api.ErrEnds, true}, {rows(group, row("80")), 2, api.ErrEnds, true}, {rows(group, row("18")), 3, api.ErrEnds, true}, {rows(group, row("72 05 61")), 3, api.ErrEnds, true}, {rows(group, row("4d 01")), 3, api.ErrEnds, true},
		{rows(group, row("00")), 2, api.ErrNumber, false}, {rows(group, row("0e")), 2, api.ErrKind, false}, {rows(group, row("1c")), 2, api.ErrGroup, false}, {rows(group, row("18 "+nines+"02")), 3, api.ErrOver, false}, {rows(group, row("1b 1c 1c")), 4, api.ErrGroup, false}, {rows(group, tag(strange, 4), tag(strange, 4)), 4, api.ErrGroup, false},
		{rows(bytes.Repeat(row("1b"), 64), bytes.Repeat(row("1c"), 64)), 63, api.ErrDepth, false},
	}
}

// wrongFields are those that hang on the fields of w.W: of each kind of record with each kind of field.
func wrongFields() []wrong {
	return []wrong{
		{row("1c"), 0, api.ErrGroup, false}, {row("1e"), 0, api.ErrKind, false}, {row("1b"), 1, api.ErrEnds, true}, {row("1b 24"), 1, api.ErrGroup, false},
		{row("18"), 1, api.ErrEnds, true}, {row("18 ff"), 1, api.ErrEnds, true}, {row("18 " + nines + "02"), 1, api.ErrOver, false}, {row("4d 00 00 00"), 1, api.ErrEnds, true}, {row("51 00 00 00 00 00 00 00"), 1, api.ErrEnds, true},
		{row("1d 00 00 00"), 1, api.ErrEnds, true}, {row("1a 01"), 1, api.ErrEnds, true}, {row("48 " + nines + "02"), 1, api.ErrOver, false}, // passed over
		{row("72"), 1, api.ErrEnds, true}, {row("72 02 61"), 1, api.ErrEnds, true}, {row("72 " + nines + "02"), 1, api.ErrOver, false}, {row("7a " + nines + "01"), 1, api.ErrEnds, false},
		{rows(tag(optional+api.TBool, 0), row("80")), 2, api.ErrEnds, true}, {rows(tag(member+api.TInt64, 0), row(nines+"7f")), 2, api.ErrOver, false}, {rows(tag(repeated+api.TSint32, 0), row("80")), 2, api.ErrEnds, true}, {rows(tag(repeated+api.TDouble, 1), row("00")), 2, api.ErrEnds, true},
		{rows(tag(repeated+api.TInt32, 2), row("02 01")), 2, api.ErrEnds, true}, {rows(tag(mapped+api.TInt32, 2), row("01")), 2, api.ErrEnds, true}, {rows(tag(api.TMessage, 2), row("01")), 2, api.ErrEnds, true}, {rows(tag(member+api.TMessage, 2), row(nines+"02")), 2, api.ErrOver, false}, {rows(tag(repeated+api.TMessage, 2), row("05 08 01")), 2, api.ErrEnds, true},
	}
}

// blind are records of w.W in whose content something is at fault, which no look into the message that holds them meets.
func blind() [][]byte {
	return [][]byte{
		record(api.TString, row("ff")), record(optional+api.TString, row("c3")), record(repeated+api.TString, row("80")), record(member+api.TString, row("ed a0 80")),
		record(repeated+api.TInt32, row("80")), record(repeated+api.TInt64, row(nines+"02")), record(repeated+api.TFixed32, row("00 00 00")), record(repeated+api.TDouble, row("00")),
		record(api.TMessage, row("00")), record(optional+api.TMessage, row("1b")), record(repeated+api.TMessage, row("1c")), record(member+api.TMessage, row("80")), record(ofV, row("0f")), record(ofU, row("0d")),
		record(mapped+api.TInt32, row("0a 01 ff")), record(mapped+api.TMessage, row("12 01 00")), record(keyed+api.TBool, row("08")), record(mapV, row("00")),
		record(unknown, row("80 ff 00")), record(unknown, nil), rows(tag(unknown, 3), record(api.TMessage, row("00")), record(api.TString, row("ff")), tag(unknown, 4)), record(tail, row("ff")),
	}
}

func TestOpenFaults(t *testing.T) { // P2108, P1102: every fault and its place, by itself, behind right records and behind such whose content is at fault, ahead of others; two of them
	s := wideSchema()
	all := append(wrongs(), wrongFields()...)
	ahead := append(blind(), nil, row("18 01"), row("1b 1c"), record(unknown, make([]byte, 300)))
	for i, c := range all {
		for _, before := range ahead {
			b := rows(before, c.b)
			refuses(t, s, "w.W", b, len(before)+c.at, c.e)
			if !c.ends {
				refuses(t, s, "w.W", rows(b, row("18 01")), len(before)+c.at, c.e)
				refuses(t, s, "w.W", rows(b, all[(i*7+len(before))%len(all)].b), len(before)+c.at, c.e)
			}
		}
	}
}

func TestOpenBlind(t *testing.T) { // P2108: what lies in the content of a record is not looked at
	s := wideSchema()
	for i, b := range blind() {
		open(t, s, "w.W", b)
		open(t, s, "w.W", rows(b, blind()[(i+1)%len(blind())], b))
	}
	open(t, s, "w.W", rows(blind()...)).asked(t, "tail", true, api.ErrUtf8, noMany, noMessage)
}

func TestOpenArguments(t *testing.T) { // P2108, P5, P8: the name, then the bytes, then what is in them
	s := smallSchema()
	bad := row("08")
	for _, name := range []string{"", "M", "p", "p.", ".p.M", "p.m", "p.M ", "p.M.d", "o", strings.Repeat("x", api.MaxName)} {
		refuses(t, s, name, nil, 0, api.ErrName)
		refuses(t, s, name, bad, 0, api.ErrName)
		refuses(t, s, name, make([]byte, api.MaxMessage+1), 0, api.ErrName)
	}
	refuses(t, s, strings.Repeat("x", api.MaxName+1), bad, 0, api.ErrLong)
	refuses(t, s, strings.Repeat("x", api.MaxName+1), make([]byte, api.MaxMessage+1), 0, api.ErrLong)
	refuses(t, s, "p.M", make([]byte, api.MaxMessage+1), 0, api.ErrLong)
	refuses(t, s, "p.M", make([]byte, api.MaxMessage), 0, api.ErrNumber)
	refuses(t, wideSchema(), "w.E", nil, 0, api.ErrName)
	refuses(t, load(t, `syntax = "proto3";`), "p.M", nil, 0, api.ErrName)
}

func TestOpenLargest(t *testing.T) { // P2108, P8: MaxMessage bytes, and the longest name
	room := api.MaxMessage - 4
	long := rows(row("12"), varint(room), bytes.Repeat(row("61"), room))
	v := open(t, smallSchema(), "p.M", long)
	v.scalar(t, "b", text(strings.Repeat("a", room)))
	if b, ok, e := v.Bytes(""); !bytes.Equal(b, long) || !ok || e != api.OK {
		t.Errorf("P2105: %s, %v, %v", some(b), ok, e)
	}
	refuses(t, smallSchema(), "p.M", rows(long[:len(long)-1], row("61 61")), 0, api.ErrLong)
	name := strings.Repeat("M", api.MaxName-1)
	s := load(t, fmt.Sprintf(`syntax = "proto3"; message %s { int32 a = 1; %s m = 2; }`, name, name))
	open(t, s, name, row("12 02 08 05")).scalar(t, "m.a", num(5))
	refuses(t, s, name+"M", nil, 0, api.ErrName)
	refuses(t, s, name+"MM", nil, 0, api.ErrLong)
}

func TestOpenNothing(t *testing.T) { // P2108: no bytes are a message without fields
	for _, b := range [][]byte{nil, {}} {
		v, place, e := view.Open(smallSchema(), "p.M", b)
		if v == nil || place != 0 || e != api.OK {
			t.Fatalf("P2108: of no bytes: %v at %d", e, place)
		}
		g := glass{v, smallSchema(), "p.M", b}
		g.message(t, "", msg(), "")
		for _, p := range []string{"a", "b", "e", "f", "g.a", "g.g.f", "c[0]", `d["k"].a`} {
			g.scalar(t, p, nil)
		}
		for _, p := range []string{"g", "g.g", `d["k"]`, `d[""].g`, "g.d[\"\"].g"} {
			g.message(t, p, nil, nil)
		}
		for _, p := range []string{"c", "d", "g.c", `d["k"].d`} {
			g.many(t, p, nil, 0)
		}
	}
}
