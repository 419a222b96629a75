package stream_test

import (
	"bytes"
	"strings"
	"testing"

	"sigil/api"
)

// within is a stream of plain with Per 1 of three values, the second of which holds other bytes in its text: those that inner makes for the place where they come to stand.
func within(t *testing.T, h api.Head, inner func(place int) []byte) (b []byte, from int) {
	t.Helper()
	size := len(inner(0))
	values := func(s string) []api.Value { return []api.Value{holds("first"), holds(s), holds("last")} }
	holder := strings.Repeat("?", size)
	b = packed(t, h, values(holder)...)
	from = bytes.Index(b, []byte(holder))
	b = packed(t, h, values(string(inner(from)))...)
	reads(t, b, values(string(inner(from))))
	return b, from
}

func TestWithinRecord(t *testing.T) { // P1704: a right block within a record's own bytes is found where the block around it is broken, and not else
	h := headFor(plain, "M", 1)
	head := secondHead(h)
	inner := func(number int) func(int) []byte {
		return func(place int) []byte { return right(head, number, place, record([]byte{0x0a, 1, 'i'})).bytes() }
	}
	size := len(inner(0)(0))
	first, last, found := holds("first"), holds("last"), holds("i")
	start := len(head) + 36 + 8 // of the second block
	for number := range 5 {
		b, from := within(t, h, inner(number))
		to, end := from+size, from+size+4
		broken := turned(b, start+33, 1) // in the text's tag
		around := api.Hurt{From: start, To: from, Err: api.ErrSum}
		behind := api.Hurt{From: to, To: end, Err: api.ErrBlock}
		switch {
		case number < 1: // not above that of the block ahead
			reads(t, broken, []api.Value{first, last}, api.Hurt{From: start, To: end, Err: api.ErrSum})
		case number < 2:
			reads(t, broken, []api.Value{first, found, last}, around, behind)
		default: // the last one's number, or above it: it takes the last block with it
			behind.To = len(b)
			reads(t, broken, []api.Value{first, found}, around, behind)
		}
		follows(t, h, broken)
		// Cut off within the block around it.
		if got := follows(t, h, b[:end-1]); number > 0 != (len(got.values) == 2) {
			t.Errorf("P1704: %v, %v", got.values, got.hurts)
		}
		if got := follows(t, h, b[:to-1]); len(got.values) != 1 {
			t.Errorf("P1704: %v, %v", got.values, got.hurts)
		}
	}
}

func TestWithinMany(t *testing.T) { // P1704: several blocks within one record, of which some are right
	h := headFor(plain, "M", 1)
	head := secondHead(h)
	rows := func(place int) []byte {
		var b []byte
		for i := range 9 {
			f := right(head, 1+i*100, place+len(b), numbered(0))
			switch i {
			case 2:
				f.turn = 1
			case 4:
				f.place++
			case 6:
				f.number = 3
			}
			b = append(b, f.bytes()...)
			b = append(b, make([]byte, i%3)...)
		}
		return b
	}
	b, from := within(t, h, rows)
	start := len(head) + 36 + 8
	got := follows(t, h, turned(b, start, 1))
	if len(got.values) != 1+6 || len(got.hurts) < 4 || got.hurts[0].To != from {
		t.Errorf("P1704: %d values, %v", len(got.values), got.hurts)
	}
	for at := start; at < len(b); at += 7 {
		follows(t, h, turned(b, at, 1))
		follows(t, h, b[:at])
	}
}

func TestWithinStream(t *testing.T) { // P1704: a whole stream of the same head within a record: its blocks stand at other places, so none is found
	h := headFor(plain, "M", 1)
	own := packed(t, h, holds("a"), holds("b"))
	b, _ := within(t, h, func(int) []byte { return own })
	start := len(secondHead(h)) + 36 + 8
	got := follows(t, h, turned(b, start, 1))
	if !sameAll(got.values, []api.Value{holds("first"), holds("last")}) || len(got.hurts) != 1 {
		t.Errorf("P1704: %v, %v", got.values, got.hurts)
	}
}

func TestWithinOneAnother(t *testing.T) { // P1704: right blocks, each within a record of the one around it: of those that are not broken the outermost is told
	const deep = 12
	h := headFor(plain, "M", 1)
	head := secondHead(h)
	var dolls func(k, place int) ([]byte, []int)
	dolls = func(k, place int) ([]byte, []int) {
		if k == deep {
			return right(head, k, place, record(nil)).bytes(), []int{place}
		}
		// How far in the next one stands hangs on how long it is, and that on no place.
		none, _ := dolls(k+1, 0)
		content := join([]byte{0x0a}, record(none))
		shift := 32 + len(record(content)) - len(none)
		in, places := dolls(k+1, place+shift)
		return right(head, k, place, record(join([]byte{0x0a}, record(in)))).bytes(), append([]int{place}, places...)
	}
	all, places := dolls(0, len(head))
	b := join(head, all)
	for k, place := range places {
		got := follows(t, h, b)
		if len(got.starts) != 1 || got.starts[0] != place || len(got.values) != 1 {
			t.Fatalf("P1704: with %d blocks broken: %v, %v", k, got.starts, got.hurts)
		}
		b = turned(b, place+32, 0xff)
	}
	if got := follows(t, h, b); len(got.values) > 0 {
		t.Errorf("P1704: with all blocks broken: %v", got.starts)
	}
}
