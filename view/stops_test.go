package view_test

import (
	"slices"
	"testing"

	"sigil/api"
)

func TestStops(t *testing.T) { // a path stops at the first fault on its way: of the message that a step goes on from, then of the list or map that it goes into, then of what is next
	const over = nines + "02"
	for _, c := range []struct {
		b    string
		p    string
		want any // of Has
	}{
		// The message, ahead of what the step goes to.
		{"3a 04 1a 01 80 00", "g.c[0]", api.ErrNumber}, {"3a 04 22 01 08 0c", `g.d["k"]`, api.ErrGroup}, {"3a 04 3a 01 08 0f", "g.g.a", api.ErrKind}, {"3a 03 12 01 ff", "g.b", true}, {"3a 04 12 01 ff 08", "g.b", api.ErrEnds},
		{"3a 02 00 08", "g.a", api.ErrNumber}, {"3a 02 08 00", "g.a", false}, {"3a 03 08 05 08", "g.a", api.ErrEnds}, {"3a 05 08 05 3a 05 00", "g.a", api.ErrEnds},
		// Of several messages the outer one, whatever the path ends in.
		{"3a 05 3a 02 00 00 08", "g.g.a", api.ErrEnds}, {"3a 04 3a 02 00 08", "g.g.a", api.ErrNumber}, {"3a 04 3a 02 00 08", "g.a", false}, {"3a 04 3a 02 00 08", "g.g", true},
		// The list, with all its blocks, ahead of whether the index is there.
		{"3a 05 1a 01 80 18 02", "g.c[1]", api.ErrEnds}, {"3a 10 18 02 1a 0a " + over + "08 05", "g.c[0]", api.ErrOver}, {"1a 02 02 04", "c[2]", false}, {"1a 02 02 04", "c[1]", true},
		// The map: a pair, its key, the next pair; then the value, if the path goes on in it.
		{"22 06 0a 00 12 02 08 05 22 01 00", `d[""].a`, api.ErrNumber}, {"22 06 0a 00 12 02 08 05 22 01 0c", `d[""].a`, api.ErrGroup}, {"22 06 0a 00 12 02 08 05 22 03 0a 01 ff", `d[""].a`, api.ErrUtf8}, {"22 03 0a 01 ff 22 01 0c", `d[""].a`, api.ErrUtf8},
		{"22 05 0a 00 12 01 08", `d[""].a`, api.ErrEnds}, {"22 05 0a 00 12 01 08", `d[""]`, true}, {"22 05 0a 00 12 01 08", `d["k"].a`, false}, {"22 05 0a 00 12 01 08 22 02 12 00", `d[""].a`, false},
		{"22 09 0a 00 12 05 22 03 0a 01 ff", `d[""].d[""].a`, api.ErrUtf8}, {"22 09 0a 00 12 05 22 03 0a 01 ff", `d[""].d`, true}, {"22 09 0a 00 12 05 22 03 0a 01 ff 22 01 08", `d[""].d[""].a`, api.ErrEnds},
	} {
		v := opens(t, c.b)
		there, e := v.Has(c.p)
		if orError(there, e) != c.want {
			t.Errorf("P2102: %s: Has(%q) = %v, %v, want %v", c.b, c.p, there, e, c.want)
		}
		w := ofSmall().says("p.M", v.b, parsed(t, v, c.p))
		v.asked(t, c.p, w.has, w.got, w.size, w.content)
		if w.has != c.want {
			t.Errorf("a second reading of %s: Has(%q) = %v, want %v", c.b, c.p, w.has, c.want)
		}
	}
}

func TestStopsOneByOne(t *testing.T) { // as one fault after the other is mended, from the left of the path on, the next one is told
	// The path is v.w.m17["k"].lv[1].w.r3[0]; of each piece on the way a broken and a right form.
	const p = `v.w.m17["k"].lv[1].w.r3[0]`
	lay := func(mended int) []byte {
		pick := func(i int, wrong, right []byte) []byte {
			if i < mended {
				return right
			}
			return wrong
		}
		b := record(repeated+api.TInt32, pick(7, row("80"), row("05")))               // the block
		b = rows(b, pick(6, row("0c"), nil))                                          // the innermost w
		b = rows(record(2, b), pick(5, row("00"), nil))                               // lv[1]
		b = rows(record(listV, row("00")), record(listV, b), pick(4, row("0f"), nil)) // the pair's message; lv[0] is not gone into
		b = rows(record(1, []byte("k")), record(2, b))                                // the pair
		b = record(mapped+api.TMessage, b)
		b = rows(b, record(mapped+api.TMessage, pick(3, row("0a 01 ff"), row("0a 01 6c"))))             // a key behind it
		b = rows(record(mapped+api.TMessage, pick(2, row("08"), row("12 01 00"))), b)                   // a pair ahead of it, whose value is at fault
		b = rows(b, pick(1, row("1b"), nil), record(api.TString, row("ff")))                            // the upper w
		b = rows(record(2, b), pick(0, append(slices.Clone(tag(unknown, 0)), row(nines+"80")...), nil)) // v
		return record(ofV, b)
	}
	for mended, want := range []api.Errno{api.ErrOver, api.ErrEnds, api.ErrEnds, api.ErrUtf8, api.ErrKind, api.ErrNumber, api.ErrGroup, api.ErrEnds} {
		b := lay(mended)
		v := open(t, wideSchema(), "w.W", b)
		v.scalar(t, p, want)
		w := ofWide().says("w.W", b, parsed(t, v, p))
		v.asked(t, p, w.has, w.got, w.size, w.content)
		if w.has != any(want) {
			t.Errorf("a second reading, %d mended: %v, want %v", mended, w.has, want)
		}
	}
	open(t, wideSchema(), "w.W", lay(8)).scalar(t, p, num(5))
}

func TestWholeFromTheLeft(t *testing.T) { // P2103: read whole, the first fault from the left is told, wherever it lies; looked into, the outer one
	for _, c := range []struct {
		b         string
		get, look api.Errno
	}{
		{"3a 04 12 01 ff 08", api.ErrUtf8, api.ErrEnds}, {"3a 05 08 12 01 ff 00", api.ErrNumber, api.ErrNumber}, {"3a 04 1a 01 80 00", api.ErrEnds, api.ErrNumber}, {"3a 04 22 01 0c 00", api.ErrGroup, api.ErrNumber},
		{"3a 04 3a 01 00 08", api.ErrNumber, api.ErrEnds}, {"3a 0d 1a 0a " + nines + "02 00", api.ErrOver, api.ErrNumber}, {"3a 06 35 01 12 01 ff 00", api.ErrNumber, api.ErrNumber},
		{"3a 03 12 01 ff 3a 01 00", api.ErrUtf8, api.ErrNumber}, {"3a 01 00 3a 03 12 01 ff", api.ErrNumber, api.ErrNumber}, {"3a 06 3a 01 08 12 01 ff", api.ErrEnds, api.OK}, {"3a 06 12 01 ff 3a 01 08", api.ErrUtf8, api.OK},
		{"3a 08 3a 01 08 35 01 02 03 04", api.ErrEnds, api.OK}, // what is taken away is read all the same
		{"3a 06 12 01 ff 12 01 61", api.ErrUtf8, api.OK}, {"3a 07 22 03 0a 01 ff 22 00", api.ErrUtf8, api.OK},
	} {
		v := opens(t, c.b)
		if _, ok, e := v.Get("g"); ok || e != c.get {
			t.Errorf("P2103: %s: Get(g): %v, %v, want %v", c.b, ok, e, c.get)
		}
		if _, ok, e := v.Get(""); ok || e != c.get {
			t.Errorf("P2103: %s: Get(\"\"): %v, %v, want %v", c.b, ok, e, c.get)
		}
		if _, e := v.Has("g.e"); e != c.look {
			t.Errorf("P2102: %s: Has(g.e): %v, want %v", c.b, e, c.look)
		}
	}
}

func TestListsValueByValue(t *testing.T) { // P2103: of a list of texts or messages the first value that is at fault is told, whatever its fault is
	s := wideSchema()
	faults := []struct {
		b []byte
		e api.Errno
	}{{row("08 02"), api.OK}, {row("08"), api.ErrEnds}, {row("00"), api.ErrNumber}, {row("12 03 72 01 ff"), api.ErrUtf8}, {row("0c"), api.ErrGroup}}
	for _, x := range faults {
		for _, y := range faults {
			for _, z := range faults {
				v := open(t, s, "w.W", rows(record(listV, x.b), record(listV, y.b), row("18 05"), record(listV, z.b)))
				want := x.e
				for _, e := range []api.Errno{y.e, z.e} {
					if want == api.OK {
						want = e
					}
				}
				if _, ok, e := v.Get("lv"); e != want || ok != (want == api.OK) {
					t.Errorf("P2103: %s: Get(lv): %v, %v, want %v", some(v.b), ok, e, want)
				}
				for i, e := range []api.Errno{x.e, y.e, z.e} {
					if _, ok, got := v.Get(named("lv[", i, "]")); got != e || ok != (e == api.OK) {
						t.Errorf("P2103: %s: Get(lv[%d]): %v, %v, want %v", some(v.b), i, ok, got, e)
					}
				}
				if n, e := v.Len("lv"); n != 3 || e != api.OK {
					t.Errorf("P2104: %s: %d, %v", some(v.b), n, e)
				}
			}
		}
	}
}
