package view_test

import (
	"fmt"
	"slices"
	"testing"

	"sigil/api"
)

// held are ways to lay a message in pieces into one of w.W: all at one path.
type held struct {
	path string
	lay  func(pieces [][]byte) []byte
}

// each lays every piece into a record of its own.
func each(number int) func(pieces [][]byte) []byte {
	return func(pieces [][]byte) []byte {
		var b []byte
		for _, piece := range pieces {
			b = append(b, record(number, piece)...)
			b = append(b, row("18 01")...)
		}
		return b
	}
}

// ways are a field, an optional one, a member behind another, a pair; and such in messages that are in pieces themselves.
func ways() []held {
	pairs := func(pieces [][]byte) []byte { return record(mapped+api.TMessage, row("0a 01 6b"), each(2)(pieces)) }
	return []held{
		{"s17", each(api.TMessage)}, {"o17", each(optional + api.TMessage)}, {`m17["k"]`, pairs},
		{"x17", func(pieces [][]byte) []byte {
			return rows(record(member+api.TMessage, row("00")), record(member+api.TString, row("ff")), each(member+api.TMessage)(pieces))
		}},
		{"s17.s17", func(pieces [][]byte) []byte {
			var b []byte
			for _, piece := range pieces {
				b = append(b, record(api.TMessage, record(api.TMessage, piece))...)
				b = append(b, record(api.TMessage)...)
			}
			return b
		}},
		{"v.w", func(pieces [][]byte) []byte {
			return rows(record(ofV, each(2)(pieces[:1])), record(ofV), record(ofV, each(2)(pieces[1:])))
		}},
		{"r17[1]", func(pieces [][]byte) []byte {
			return rows(record(repeated+api.TMessage, row("00")), record(repeated+api.TMessage, slices.Concat(pieces...)))
		}},
	}
}

func TestPiecesAsOne(t *testing.T) { // P2101: right pieces are read one behind the other
	one := [][]byte{row("18 05"), rows(record(repeated+api.TInt32, row("01 02")), record(api.TString, []byte("x"))), nil, rows(row("18 07"), record(repeated+api.TInt32, row("03")), record(mapped+api.TInt32, row("10 09"))), record(mapped + api.TInt32), rows(record(api.TMessage, row("18 01")), tag(unknown, 3), tag(unknown, 4)), record(api.TMessage, row("20 02"))}
	all := slices.Concat(one...)
	alone := open(t, wideSchema(), "w.W", all)
	for _, way := range ways() {
		v := open(t, wideSchema(), "w.W", way.lay(one))
		in, ok, e := v.At(way.path)
		if in == nil || !ok || e != api.OK {
			t.Fatalf("P2106: %s: %v, %v", way.path, ok, e)
		}
		within := glass{in, wideSchema(), "w.W", all}
		for _, p := range []string{"", "s3", "s14", "r3", "r3[0]", "r3[2]", "r3[3]", "m3", `m3[""]`, `m3["k"]`, "s17", "s17.s3", "s17.s4", "o3", "r17", "x17"} {
			w := ofWide().says("w.W", all, parsed(t, alone, p))
			alone.asked(t, p, w.has, w.got, w.size, w.content)
			within.asked(t, p, w.has, w.got, w.size, w.content)
			long := way.path + "." + p
			if p == "" {
				long = way.path
			}
			v.asked(t, long, w.has, w.got, w.size, w.content)
		}
	}
}

func TestNothingGoesOn(t *testing.T) { // P2101: no record goes on from one piece into the next: what would be whole in one piece is at fault where the piece ends
	for _, c := range []struct {
		b []byte
		e []api.Errno // cut behind so many bytes
	}{
		{row("18 80 01"), []api.Errno{api.ErrEnds, api.ErrEnds}},
		{row("a0 06 01"), []api.Errno{api.ErrEnds, api.ErrEnds}},
		{row("72 02 61 62"), []api.Errno{api.ErrEnds, api.ErrEnds, api.ErrEnds}},
		{row("4d 01 02 03 04"), []api.Errno{api.ErrEnds, api.ErrEnds, api.ErrEnds, api.ErrEnds}},
		{row("51 01 02 03 04 05 06 07 08"), slices.Repeat([]api.Errno{api.ErrEnds}, 8)},
		{row("1b 18 01 1c"), []api.Errno{api.ErrEnds, api.ErrEnds, api.ErrEnds}},
		{row("1b 23 24 1c"), slices.Repeat([]api.Errno{api.ErrEnds}, 3)},
		{rows(tag(unknown, 2), row("01 00")), []api.Errno{api.ErrEnds, api.ErrEnds, api.ErrEnds}},
		{record(api.TMessage, row("18 01")), slices.Repeat([]api.Errno{api.ErrEnds}, 4)},
		{record(mapped+api.TInt32, row("10 01")), slices.Repeat([]api.Errno{api.ErrEnds}, 4)},
	} {
		right := open(t, wideSchema(), "w.W", record(api.TMessage, c.b))
		if there, e := right.Has("s17.tail"); there || e != api.OK {
			t.Fatalf("%s in one piece: %v, %v", some(c.b), there, e)
		}
		for i, want := range c.e {
			for _, way := range ways()[:6] {
				v := open(t, wideSchema(), "w.W", way.lay([][]byte{c.b[:i+1], c.b[i+1:]}))
				v.scalar(t, way.path+".tail", want)
				v.many(t, way.path+".r3", want, want)
				v.message(t, way.path, want, fmt.Sprintf("%x", c.b))
				// Nor for a view that was handed out.
				in, _, _ := v.At(way.path)
				within := glass{in, wideSchema(), "w.W", c.b}
				within.scalar(t, "tail", want)
				within.message(t, "", want, fmt.Sprintf("%x", c.b))
				within.message(t, "s17", want, want)
				// Nor if right pieces stand around it.
				v = open(t, wideSchema(), "w.W", way.lay([][]byte{row("18 05"), c.b[:i+1], nil, c.b[i+1:], row("18 06")}))
				v.scalar(t, way.path+".s3", want)
				v.message(t, way.path, want, fmt.Sprintf("1805%x1806", c.b))
			}
		}
	}
}

func TestPiecesOfViews(t *testing.T) { // P2101, P2107: the views that Each tells of a map's values stand on pieces, too; so do views of views
	v := open(t, wideSchema(), "w.W", rows(record(mapped+api.TMessage, record(2, row("18")), record(2, row("05"))), record(mapped+api.TMessage, row("0a 01 6b"), record(2, row("18 05")), record(2, row("20 06")))))
	for st, in := range sequence(t, v, "m17") {
		for range 3 {
			g := glass{in, wideSchema(), "w.W", nil}
			if st.Key.Text == "k" {
				g.message(t, "", msg(at(3, num(5)), at(4, num(6))), "18 05 20 06")
				g.scalar(t, "s4", num(6))
			} else {
				g.message(t, "", api.ErrEnds, "18 05")
				g.scalar(t, "s3", api.ErrEnds)
			}
			in, _, _ = in.At("")
		}
	}
}

func TestFaultsInPieces(t *testing.T) { // P2101, P1102: of the faults of several pieces the first one is told
	for i, c := range wrongs() {
		d := wrongs()[(i*5+3)%len(wrongs())]
		for _, way := range ways()[:6] {
			for _, pieces := range [][][]byte{{c.b}, {row("18 05"), c.b}, {c.b, d.b}, {nil, c.b, row("18 05"), d.b}, {row("18 05"), record(api.TString, row("61")), c.b, row("1c")}} {
				v := open(t, wideSchema(), "w.W", way.lay(pieces))
				v.scalar(t, way.path+".s3", c.e)
				v.message(t, way.path, c.e, fmt.Sprintf("%x", slices.Concat(pieces...)))
				v.message(t, way.path+".s17", c.e, c.e)
			}
			// Read whole, what lies in an earlier piece comes first; looked into, it is not met.
			v := open(t, wideSchema(), "w.W", way.lay([][]byte{record(api.TString, row("ff")), c.b}))
			v.scalar(t, way.path+".s3", c.e)
			v.asked(t, way.path, true, api.ErrUtf8, noMany, string(rows(record(api.TString, row("ff")), c.b)))
		}
	}
}
