package view_test

import (
	"bytes"
	"testing"

	"sigil/api"
)

func TestBlocks(t *testing.T) { // P2101, P2102, P2104: numbers in blocks and one by one, in any mix, in the order of the bytes; empty blocks hold nothing
	for _, c := range []struct {
		b    string
		want []int
	}{
		{"", nil}, {"1a 00", nil}, {"1a 00 1a 00", nil}, {"18 00", []int{0}}, {"1a 01 00", []int{0}},
		{"18 02 1a 02 01 04 18 06", []int{1, -1, 2, 3}}, {"1a 02 02 01 1a 00 1a 01 04", []int{1, -1, 2}}, {"1a 03 82 80 00 18 81 00", []int{1, -1}},
		{"18 02 08 05 1d 01 02 03 04 1b 18 06 1c 18 04", []int{1, 2}}, {"1a 0a 80 80 80 80 80 80 80 80 80 01 18 01", []int{0, -1}},
	} {
		v := opens(t, c.b)
		all := list()
		for i, n := range c.want {
			all.List = append(all.List, num(n))
			v.scalar(t, "c["+string(rune('0'+i))+"]", num(n))
		}
		if len(c.want) == 0 {
			v.many(t, "c", nil, 0)
		} else {
			v.many(t, "c", all, len(c.want))
		}
		v.scalar(t, "c["+string(rune('0'+len(c.want)))+"]", nil)
		v.scalar(t, "c[4194303]", nil)
	}
}

func TestBrokenBlocks(t *testing.T) { // P2101, P2102: a block that ends too early or runs over is at fault as soon as anything is asked of the list, also of a value ahead of it; of nothing else
	look := func(digits string, want api.Errno) {
		t.Helper()
		g := opens(t, digits+"08 05")
		g.many(t, "c", want, want)
		for _, p := range []string{"c[0]", "c[1]", "c[7]"} {
			g.scalar(t, p, want)
		}
		g.scalar(t, "a", num(5))
		g.scalar(t, "b", nil)
		g.message(t, "g", nil, nil)
		g.message(t, "", want, digits+"08 05")
	}
	look("1a 01 80", api.ErrEnds)
	look("1a 02 02 80", api.ErrEnds)
	look("1a 03 02 04 80", api.ErrEnds)
	look("18 02 1a 01 80", api.ErrEnds)
	look("1a 01 80 18 02", api.ErrEnds)
	look("1a 01 80 1a 01 00", api.ErrEnds) // a number does not go on in the next block
	look("1a 0a "+nines+"02", api.ErrOver)
	look("1a 0a "+nines+"80", api.ErrOver)
	look("1a 0c "+nines+"80 01 00", api.ErrOver)
	look("1a 0b 02 "+nines+"7f 1a 01 80", api.ErrOver)
	look("1a 01 80 1a 0a "+nines+"02", api.ErrEnds)
	s := wideSchema()
	for _, c := range []struct {
		typ  int
		size int
		want any
	}{
		{api.TFixed32, 0, 0}, {api.TFixed32, 3, api.ErrEnds}, {api.TFixed32, 4, 1}, {api.TFloat, 5, api.ErrEnds}, {api.TSfixed32, 7, api.ErrEnds}, {api.TSfixed32, 8, 2},
		{api.TDouble, 4, api.ErrEnds}, {api.TDouble, 7, api.ErrEnds}, {api.TDouble, 8, 1}, {api.TFixed64, 12, api.ErrEnds}, {api.TSfixed64, 16, 2},
	} {
		g := open(t, s, "w.W", record(repeated+c.typ, make([]byte, c.size)))
		if n, e := g.Len(named("r", c.typ, "")); orError(n, e) != c.want {
			t.Errorf("P2104: %d bytes of type %d: %d, %v, want %v", c.size, c.typ, n, e, c.want)
		}
		if there, e := g.Has(named("r", c.typ, "")); orError(there, e) != orError(c.want != 0, errorOf(c.want)) {
			t.Errorf("P2102: %d bytes of type %d: %v, %v, want %v", c.size, c.typ, there, e, c.want)
		}
	}
}

// errorOf is the error that is wanted, if one is.
func errorOf(want any) api.Errno {
	e, _ := want.(api.Errno)
	return e
}

func TestTexts(t *testing.T) { // P2101, P2103: lists of texts: a value for each record; each is looked at by itself, and by none but Get
	s := wideSchema()
	b := rows(record(repeated+api.TString, []byte("a")), record(repeated+api.TString), record(repeated+api.TString, row("ff")), record(repeated+api.TString, []byte("é")))
	v := open(t, s, "w.W", b)
	v.many(t, "r14", api.ErrUtf8, 4)
	v.scalar(t, "r14[0]", text("a"))
	v.scalar(t, "r14[1]", text(""))
	v.asked(t, "r14[2]", true, api.ErrUtf8, noMany, noMessage)
	v.scalar(t, "r14[3]", text("é"))
	v.scalar(t, "r14[4]", nil)
	b = rows(record(repeated+api.TBytes, row("ff")), record(repeated+api.TBytes))
	v = open(t, s, "w.W", b)
	v.many(t, "r15", list(text("\xff"), text("")), 2)
	v.scalar(t, "r15[0]", text("\xff"))
	v.scalar(t, "r15[1]", text(""))
	v.scalar(t, "r15[2]", nil)
	v.many(t, "r14", nil, 0)
	v = open(t, s, "w.W", record(repeated+api.TString))
	v.many(t, "r14", list(text("")), 1)
}

func TestUtf8(t *testing.T) { // P2103: a TString that is not UTF-8 is refused where it is read, and nowhere else; a TBytes never
	s := wideSchema()
	for _, bad := range []string{"\xff", "\xc3", "a\x80", "\xed\xa0\x80", "\xc0\x80", "\xf4\x90\x80\x80", "é\xc3"} {
		for _, typ := range []int{api.TString, api.TBytes} {
			got := any(text(bad))
			if typ == api.TString {
				got = api.ErrUtf8
			}
			for _, f := range []struct {
				letter string
				number int
			}{{"s", typ}, {"o", optional + typ}, {"x", member + typ}} {
				v := open(t, s, "w.W", record(f.number, []byte(bad)))
				v.asked(t, named(f.letter, typ, ""), true, got, noMany, noMessage)
				// The last record alone counts; read whole, all do.
				v = open(t, s, "w.W", rows(record(f.number, []byte(bad)), record(f.number, []byte("x"))))
				v.scalar(t, named(f.letter, typ, ""), text("x"))
				if _, _, e := v.Get(""); e != errorOf(got) {
					t.Errorf("P2103: Get(\"\") of %q ahead of another: %v", bad, e)
				}
				v = open(t, s, "w.W", rows(record(f.number, []byte("x")), record(f.number, []byte(bad))))
				v.asked(t, named(f.letter, typ, ""), true, got, noMany, noMessage)
			}
			v := open(t, s, "w.W", rows(record(mapped+typ, row("0a 01 6b"), record(2, []byte(bad))), record(mapped+typ, row("0a 01 6c 12 01 78"))))
			v.asked(t, named("m", typ, ""), true, map[bool]any{true: got, false: dict(kv("k", text(bad)), kv("l", text("x")))}[typ == api.TString], 2, noMessage)
			v.asked(t, named("m", typ, `["k"]`), true, got, noMany, noMessage)
			v.scalar(t, named("m", typ, `["l"]`), text("x"))
		}
	}
	open(t, s, "w.W", rows(record(tail, row("ff")), record(tail))).scalar(t, "tail", nil) // its zero is not there
}

func TestMessages(t *testing.T) { // P2101: lists of messages: one of one piece for each record; each is read by itself
	v := open(t, wideSchema(), "w.W", rows(record(listV, row("08 02")), record(listV), record(listV, row("08")), record(listV, row("08 02 12 02 18 05"))))
	v.many(t, "lv", api.ErrEnds, 4)
	v.message(t, "lv[0]", one(1, num(1)), "08 02")
	v.message(t, "lv[1]", msg(), "")
	v.message(t, "lv[2]", api.ErrEnds, "08")
	v.message(t, "lv[3]", msg(at(1, num(1)), at(2, one(3, num(5)))), "08 02 12 02 18 05")
	v.message(t, "lv[4]", nil, nil)
	v.scalar(t, "lv[0].a", num(1))
	v.scalar(t, "lv[1].a", nil)
	v.scalar(t, "lv[2].a", api.ErrEnds)
	v.message(t, "lv[2].w", api.ErrEnds, api.ErrEnds)
	v.scalar(t, "lv[3].w.s3", num(5))
	v.scalar(t, "lv[4].a", nil)
	v.many(t, "lv[4].w.r3", nil, 0)
	v = open(t, wideSchema(), "w.W", rows(record(listV, row("08 02")), record(listV, row("08 04"))))
	v.many(t, "lv", list(one(1, num(1)), one(1, num(2))), 2)
	v.scalar(t, "lv[1].a", num(2))
}

func TestLongLists(t *testing.T) { // P2104, P2107: as many values as MaxMessage bytes hold
	s := wideSchema()
	n := api.MaxMessage - 5
	v := open(t, s, "w.W", rows(tag(repeated+api.TBool, 2), varint(n), bytes.Repeat(row("01"), n)))
	if k, e := v.Len("r13"); k != n || e != api.OK {
		t.Errorf("P2104: %d, %v, want %d", k, e, n)
	}
	v.scalar(t, "r13[1048570]", num(1))
	v.scalar(t, "r13[1048571]", nil)
	all, e := v.Each("r13")
	if e != api.OK {
		t.Fatal(e)
	}
	k := 0
	for st, in := range all {
		if st.Number != k || in != nil {
			t.Fatalf("P2107: %+v, %v, want %d", st, in != nil, k)
		}
		k++
	}
	if k != n {
		t.Errorf("P2107: %d steps, want %d", k, n)
	}
	if got, ok, e := v.Get("r13"); len(got.List) != n || !ok || e != api.OK || !same(got.List[n-1], num(1)) {
		t.Errorf("P2103: %d values, %v, %v", len(got.List), ok, e)
	}
}
