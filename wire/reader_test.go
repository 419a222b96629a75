package wire_test

import (
	"bytes"
	"fmt"
	"math"
	"math/rand"
	"strings"
	"testing"

	"sigil/api"
	"sigil/wire"
)

// reader is a reader over bytes that may be read.
func reader(t *testing.T, b []byte, strict bool) *wire.Reader {
	t.Helper()
	r, e := wire.Read(b, strict)
	if e != api.OK {
		t.Fatalf("P210: Read of %d bytes: %v", len(b), e)
	}
	return r
}

func TestRead(t *testing.T) { // P210
	for _, n := range []int{0, 1, api.MaxMessage} {
		for _, strict := range []bool{true, false} {
			if r := reader(t, make([]byte, n), strict); r.At() != 0 || r.More() != (n > 0) {
				t.Errorf("P210: Read of %d bytes: At %d, More %v", n, r.At(), r.More())
			}
		}
	}
	if r := reader(t, nil, true); r.At() != 0 || r.More() {
		t.Errorf("P210: Read of nil: At %d, More %v", r.At(), r.More())
	}
	for _, strict := range []bool{true, false} {
		if r, e := wire.Read(make([]byte, api.MaxMessage+1), strict); e != api.ErrLong || r != nil {
			t.Errorf("P210: Read of one byte too many: %v, %v, want ErrLong", r, e)
		}
	}
}

func TestReadKeepsNothing(t *testing.T) { // P210, P2
	b := unhex("08 96 01 12 02 68 69 0d 01 00 00 00")
	kept := bytes.Clone(b)
	r := reader(t, b[:7], true)
	clear(b)
	n, k, e := r.Tag()
	v, ev := r.Varint()
	if n != 1 || k != 0 || v != 150 || e != api.OK || ev != api.OK {
		t.Errorf("P210: the bytes were changed later: Tag %d, %d, %v, Varint %d, %v", n, k, e, v, ev)
	}
	r.Tag()
	if s, e := r.Text(); s != "hi" || e != api.OK {
		t.Errorf("P210: the bytes were changed later: Text %q, %v", s, e)
	}
	if _, _, e := r.Tag(); r.More() || e != api.ErrEnds || r.At() != 7 {
		t.Errorf("P210: it goes on behind the end: %v, At %d", e, r.At())
	}
	copy(b, kept)
	r = reader(t, b, true)
	for r.More() {
		n, k, _ := r.Tag()
		r.Skip(n, k, 1)
	}
	if !bytes.Equal(b, kept) {
		t.Errorf("P2: reading changed the bytes: %x", b)
	}
}

// read is one call of a reader: its name and arguments.
type read struct {
	name                      string
	size, number, kind, depth int
}

// do makes the call: what it answers, and the place then.
func (c read) do(r *wire.Reader) (got string, e api.Errno, at int) {
	switch c.name {
	case "Varint":
		v, err := r.Varint()
		got, e = fmt.Sprint(v), err
	case "Fixed":
		v, err := r.Fixed(c.size)
		got, e = fmt.Sprint(v), err
	case "Text":
		s, err := r.Text()
		got, e = fmt.Sprintf("%q", s), err
	case "Tag":
		n, k, err := r.Tag()
		got, e = fmt.Sprint(n, k), err
	case "Skip":
		e = r.Skip(c.number, c.kind, c.depth)
	}
	return got, e, r.At()
}

// zero is what a call answers beside an error.
func (c read) zero() string {
	return map[string]string{"Varint": "0", "Fixed": "0", "Text": `""`, "Tag": "0 0", "Skip": ""}[c.name]
}

// from makes the call at the place 1 of these bytes, a byte put ahead of them.
func (c read) from(t *testing.T, b []byte, strict bool) (string, api.Errno, int) {
	t.Helper()
	r := reader(t, append([]byte{0x01}, b...), strict)
	r.Varint()
	got, e, at := c.do(r)
	if e != api.OK && got != c.zero() {
		t.Errorf("P4: %+v of %x: %s beside %v", c, b, got, e)
	}
	return got, e, at - 1
}

func TestReads(t *testing.T) { // P211
	varint, tag, text, four, eight := read{name: "Varint"}, read{name: "Tag"}, read{name: "Text"}, read{name: "Fixed", size: 4}, read{name: "Fixed", size: 8}
	nine, nines := strings.Repeat("ff", 9), strings.Repeat("80", 9)
	for _, c := range []struct {
		call read
		b    string
		want string
		to   int
	}{
		{varint, "00", "0", 1}, {varint, "7f ff", "127", 1}, {varint, "96 01 02", "150", 2}, {varint, nine + "01", "-1", 10}, {varint, nines + "01 ff", "-9223372036854775808", 10}, {varint, nine[:16] + "7f", "9223372036854775807", 9},
		{tag, "08", "1 0", 1}, {tag, "09", "1 1", 1}, {tag, "0a", "1 2", 1}, {tag, "0b", "1 3", 1}, {tag, "0c", "1 4", 1}, {tag, "0d 00", "1 5", 1}, {tag, "82 01", "16 2", 2}, {tag, "f8 ff ff ff 0f", "536870911 0", 5}, {tag, "fc ff ff ff 0f 01", "536870911 4", 5},
		{text, "00", `""`, 1}, {text, "02 68 69 70", `"hi"`, 3}, {text, "02 ff 00", `"\xff\x00"`, 3}, {text, "80 01" + strings.Repeat("61", 128), `"` + strings.Repeat("a", 128) + `"`, 130},
		{four, "01 00 00 00 ff", "1", 4}, {four, "ff ff ff ff", "4294967295", 4}, {four, "01 02 03 84", "2214789633", 4},
		{eight, "01 00 00 00 00 00 00 00 ff", "1", 8}, {eight, "ff ff ff ff ff ff ff ff", "-1", 8}, {eight, "00 00 00 00 00 00 00 80", "-9223372036854775808", 8}, {eight, "01 02 03 04 05 06 07 08", "578437695752307201", 8},
	} {
		for _, strict := range []bool{true, false} {
			if got, e, at := c.call.from(t, unhex(c.b), strict); got != c.want || e != api.OK || at != c.to {
				t.Errorf("P211: %s of %s, strict %v: %s, %v, At %d, want %s, At %d", c.call.name, c.b, strict, got, e, at, c.want, c.to)
			}
		}
	}
}

func TestReadsWrong(t *testing.T) { // P211, P210
	varint, tag, text := read{name: "Varint"}, read{name: "Tag"}, read{name: "Text"}
	fixed := func(size int) read { return read{name: "Fixed", size: size} }
	nine, nines := strings.Repeat("ff", 9), strings.Repeat("80", 9)
	for _, c := range []struct {
		call            read
		b               string
		strict, loosely api.Errno
	}{
		{varint, "", api.ErrEnds, api.ErrEnds}, {varint, "80", api.ErrEnds, api.ErrEnds}, {varint, nine, api.ErrEnds, api.ErrEnds}, {varint, nine + "02", api.ErrOver, api.ErrOver}, {varint, nine + "ff", api.ErrOver, api.ErrOver}, {varint, nine + "80 00", api.ErrOver, api.ErrOver},
		{varint, "80 00", api.ErrLonger, 0}, {varint, "96 81 00", api.ErrLonger, 0}, {varint, nines + "00", api.ErrLonger, 0},
		{tag, "", api.ErrEnds, api.ErrEnds}, {tag, "88", api.ErrEnds, api.ErrEnds}, {tag, nine + "02", api.ErrOver, api.ErrOver}, {tag, "88 00", api.ErrLonger, 0},
		{tag, "00", api.ErrNumber, api.ErrNumber}, {tag, "07", api.ErrNumber, api.ErrNumber}, {tag, "80 80 80 80 10", api.ErrNumber, api.ErrNumber}, {tag, "86 80 80 80 10", api.ErrNumber, api.ErrNumber}, {tag, nine + "01", api.ErrNumber, api.ErrNumber}, {tag, nines + "01", api.ErrNumber, api.ErrNumber}, {tag, "80 00", api.ErrLonger, api.ErrNumber},
		{tag, "0e", api.ErrKind, api.ErrKind}, {tag, "0f", api.ErrKind, api.ErrKind}, {tag, "fe ff ff ff 0f", api.ErrKind, api.ErrKind}, {tag, "8f 00", api.ErrLonger, api.ErrKind},
		{text, "", api.ErrEnds, api.ErrEnds}, {text, "80", api.ErrEnds, api.ErrEnds}, {text, "01", api.ErrEnds, api.ErrEnds}, {text, "03 61 62", api.ErrEnds, api.ErrEnds}, {text, nine + "01 61", api.ErrEnds, api.ErrEnds}, {text, nines + "01 61", api.ErrEnds, api.ErrEnds}, {text, nine[:16] + "7f", api.ErrEnds, api.ErrEnds}, {text, nine + "02", api.ErrOver, api.ErrOver}, {text, "81 00 61", api.ErrLonger, 0}, {text, "85 00 61", api.ErrLonger, api.ErrEnds},
		{fixed(4), "", api.ErrEnds, api.ErrEnds}, {fixed(4), "01 02 03", api.ErrEnds, api.ErrEnds}, {fixed(8), "", api.ErrEnds, api.ErrEnds}, {fixed(8), "01 02 03 04 05 06 07", api.ErrEnds, api.ErrEnds},
		{fixed(0), "01 02 03 04 05 06 07 08", api.ErrArg, api.ErrArg}, {fixed(3), "", api.ErrArg, api.ErrArg}, {fixed(5), "01 02 03 04 05 06 07 08", api.ErrArg, api.ErrArg}, {fixed(7), "", api.ErrArg, api.ErrArg}, {fixed(9), "01", api.ErrArg, api.ErrArg},
		{fixed(-4), "01 02 03 04", api.ErrArg, api.ErrArg}, {fixed(-8), "", api.ErrArg, api.ErrArg}, {fixed(1<<32 + 4), "01 02 03 04", api.ErrArg, api.ErrArg}, {fixed(math.MinInt), "01", api.ErrArg, api.ErrArg}, {fixed(math.MaxInt), "01", api.ErrArg, api.ErrArg},
	} {
		for strict, want := range map[bool]api.Errno{true: c.strict, false: c.loosely} {
			_, e, at := c.call.from(t, unhex(c.b), strict)
			if e != want || want != api.OK && at != 0 {
				t.Errorf("P211: %+v of %s, strict %v: %v, At %d, want %v, At 0", c.call, c.b, strict, e, at, want)
			}
		}
	}
}

func TestReadExamples(t *testing.T) { // P210, P211, P212
	r := reader(t, unhex("08 96 01"), true)
	if n, k, e := r.Tag(); n != 1 || k != 0 || e != api.OK || r.At() != 1 || !r.More() {
		t.Errorf("P211: Tag: %d, %d, %v, At %d, More %v", n, k, e, r.At(), r.More())
	}
	if v, e := r.Varint(); v != 150 || e != api.OK || r.More() {
		t.Errorf("P211: Varint: %d, %v, More %v", v, e, r.More())
	}
	for range 3 {
		if v, e := r.Varint(); v != 0 || e != api.ErrEnds || r.At() != 3 {
			t.Errorf("P211: Varint at the end: %d, %v, At %d", v, e, r.At())
		}
	}
	r = reader(t, unhex("0b 08 0c"), false)
	if n, k, e := r.Tag(); n != 1 || k != 3 || e != api.OK {
		t.Errorf("P211: Tag: %d, %d, %v", n, k, e)
	}
	if e := r.Skip(1, 3, 1); e != api.ErrEnds || r.At() != 3 {
		t.Errorf("P212: Skip: %v, At %d, want ErrEnds, At 3", e, r.At())
	}
}

func TestSkip(t *testing.T) { // P212
	nine := strings.Repeat("ff", 9)
	for _, c := range []struct {
		number, kind, depth int
		b                   string
		at                  int
		e                   api.Errno
	}{
		// What may not be asked for: the reader stays, whatever the bytes are.
		{0, 0, 1, "01", 0, api.ErrNumber}, {0, 9, 0, "01", 0, api.ErrNumber}, {-1, 4, 0, "01", 0, api.ErrNumber}, {536870912, 3, 0, "01", 0, api.ErrNumber}, {math.MinInt, 0, 1, "01", 0, api.ErrNumber}, {math.MaxInt, 0, 1, "01", 0, api.ErrNumber},
		{1, 6, 1, "01", 0, api.ErrKind}, {1, 7, 0, "", 0, api.ErrKind}, {1, -1, 1, "01", 0, api.ErrKind}, {1, math.MinInt, 1, "", 0, api.ErrKind}, {1, math.MaxInt, 1, "", 0, api.ErrKind},
		{1, 4, 1, "01", 0, api.ErrGroup}, {1, 4, 0, "", 0, api.ErrGroup}, {1, 3, 0, "0c", 0, api.ErrDepth}, {1, 3, -1, "0c", 0, api.ErrDepth}, {1, 3, math.MinInt, "", 0, api.ErrDepth},
		// The depth is one of groups alone.
		{1, 0, 0, "96 01 02", 2, api.OK}, {536870911, 0, -1, "7f", 1, api.OK}, {1, 0, 1, nine + "01", 10, api.OK}, {1, 0, math.MinInt, "00", 1, api.OK},
		{1, 1, 0, "01 02 03 04 05 06 07 08 09", 8, api.OK}, {1, 5, 0, "01 02 03 04 05", 4, api.OK}, {1, 2, 0, "02 68 69 70", 3, api.OK}, {1, 2, 0, "00", 1, api.OK}, {1, 2, 0, "02 ff ff", 3, api.OK},
		{1, 0, 1, "", 0, api.ErrEnds}, {1, 0, 1, "80", 0, api.ErrEnds}, {1, 0, 1, nine + "02", 0, api.ErrOver}, {1, 1, 1, "01 02 03 04 05 06 07", 0, api.ErrEnds}, {1, 5, 1, "01 02 03", 0, api.ErrEnds}, {1, 2, 1, "03 61 62", 0, api.ErrEnds}, {1, 2, 1, nine + "01", 0, api.ErrEnds},
		// Groups.
		{1, 3, 1, "0c", 1, api.OK}, {1, 3, 1, "0c 0c", 1, api.OK}, {2, 3, 1, "14 ff", 1, api.OK}, {536870911, 3, 1, "fc ff ff ff 0f", 5, api.OK},
		{1, 3, 1, "08 96 01 0d 01 02 03 04 09 01 02 03 04 05 06 07 08 0a 02 0c 0c 0c 08", 22, api.OK},
		{1, 3, 2, "0b 0c 0c", 3, api.OK}, {1, 3, 2, "13 14 13 14 0c", 5, api.OK}, {1, 3, math.MaxInt, "13 0b 0c 14 0c", 5, api.OK},
		{1, 3, 1, "08 01 13 14 0c", 2, api.ErrDepth}, {1, 3, 2, "13 1b 1c 14 0c", 1, api.ErrDepth}, {1, 3, 2, "13 14 13 1b 1c 14 0c", 3, api.ErrDepth},
		{1, 3, 1, "", 0, api.ErrEnds}, {1, 3, 1, "08 01", 2, api.ErrEnds}, {1, 3, 2, "13 14", 2, api.ErrEnds}, {1, 3, 2, "13 0c", 1, api.ErrGroup}, {1, 3, 1, "14", 0, api.ErrGroup}, {1, 3, 2, "13 14 14", 2, api.ErrGroup},
		{1, 3, 1, "08 80", 1, api.ErrEnds}, {1, 3, 1, "08" + nine + "02 0c", 1, api.ErrOver}, {1, 3, 1, "0d 01 02 03", 1, api.ErrEnds}, {1, 3, 1, "10 01 09 01", 3, api.ErrEnds}, {1, 3, 1, "0a 02 0c", 1, api.ErrEnds},
		{1, 3, 1, "00 0c", 0, api.ErrNumber}, {1, 3, 1, "08 01 04 0c", 2, api.ErrNumber}, {1, 3, 1, "08 01 0e", 2, api.ErrKind}, {1, 3, 1, "0f 0c", 0, api.ErrKind}, {1, 3, 1, "80 80 80 80 10", 0, api.ErrNumber}, {1, 3, 1, "8c", 0, api.ErrEnds}, {1, 3, 1, nine + "02", 0, api.ErrOver},
		// Of a begin that goes too deep the tag's own faults come first.
		{1, 3, 1, "03", 0, api.ErrNumber}, {1, 3, 1, "83 80 80 80 10", 0, api.ErrNumber},
	} {
		for _, strict := range []bool{true, false} {
			call := read{name: "Skip", number: c.number, kind: c.kind, depth: c.depth}
			if _, e, at := call.from(t, unhex(c.b), strict); e != c.e || at != c.at {
				t.Errorf("P212: Skip(%d, %d, %d) of %s: %v, At %d, want %v, At %d", c.number, c.kind, c.depth, c.b, e, at, c.e, c.at)
			}
		}
	}
}

func TestSkipStrict(t *testing.T) { // P212
	for _, c := range []struct {
		kind         int
		b            string
		at, past     int
		looseError   api.Errno
		strictsError api.Errno
	}{
		{0, "96 81 00", 0, 3, api.OK, api.ErrLonger}, {2, "81 00 61", 0, 3, api.OK, api.ErrLonger}, {3, "8c 00", 0, 2, api.OK, api.ErrLonger},
		{3, "08 81 00 0c", 1, 4, api.OK, api.ErrLonger}, {3, "88 00 01 0c", 0, 4, api.OK, api.ErrLonger}, {3, "0a 80 00 0c", 1, 4, api.OK, api.ErrLonger},
		{3, "8b 00 0c 0c", 0, 0, api.ErrDepth, api.ErrLonger}, {3, "94 00", 0, 0, api.ErrGroup, api.ErrLonger}, {3, "87 00", 0, 0, api.ErrNumber, api.ErrLonger},
	} {
		call := read{name: "Skip", number: 1, kind: c.kind, depth: 1}
		if _, e, at := call.from(t, unhex(c.b), true); e != c.strictsError || at != c.at {
			t.Errorf("P212: Skip(1, %d, 1) of %s, strict: %v, At %d, want %v, At %d", c.kind, c.b, e, at, c.strictsError, c.at)
		}
		if _, e, at := call.from(t, unhex(c.b), false); e != c.looseError || at != c.past {
			t.Errorf("P212: Skip(1, %d, 1) of %s, not strict: %v, At %d, want %v, At %d", c.kind, c.b, e, at, c.looseError, c.past)
		}
	}
}

func TestSkipDeep(t *testing.T) { // P212, P1
	for _, n := range []int{1, 2, 62, 63, 64, 1000, 1 << 16, api.MaxMessage / 2} {
		b := unhex(groups(n))
		for depth, want := range map[int]api.Errno{n - 1: api.ErrDepth, n: api.OK, n + 1: api.OK, math.MaxInt: api.OK} {
			r := reader(t, b, true)
			r.Tag()
			// Where the first group itself is one too many the reader stays behind its tag.
			to := map[api.Errno]int{api.OK: 2 * n, api.ErrDepth: max(1, n-1)}[want]
			if e := r.Skip(1, 3, depth); e != want || r.At() != to {
				t.Errorf("P212: Skip of %d groups, depth %d: %v, At %d, want %v, At %d", n, depth, e, r.At(), want, to)
			}
		}
	}
	r := reader(t, bytes.Repeat([]byte{0x0b}, api.MaxMessage), false)
	if e := r.Skip(1, 3, math.MaxInt); e != api.ErrEnds || r.At() != api.MaxMessage {
		t.Errorf("P212: Skip of groups without an end: %v, At %d", e, r.At())
	}
}

// bySkip reads bytes by Tag and Skip: how the places go, and the first fault.
func bySkip(t *testing.T, b []byte, strict bool) ([]int, api.Errno) {
	r := reader(t, b, strict)
	var places []int
	for r.More() {
		places = append(places, r.At())
		start := r.At()
		n, k, e := r.Tag()
		if e != api.OK {
			return append(places, r.At()), e
		}
		if e := r.Skip(n, k, 63); e != api.OK {
			at := r.At()
			if k == api.WEnd { // its place is the tag's in Split
				at = start
			}
			return append(places, at), e
		}
	}
	return append(places, r.At()), api.OK
}

// byKind reads bytes by Tag and the call for each kind: the records, and the place and the error of the first fault.
func byKind(r *wire.Reader, open []int) ([]api.Record, int, api.Errno) {
	var l []api.Record
	for r.More() {
		at := r.At()
		n, k, e := r.Tag()
		rec := api.Record{Number: n, Kind: k}
		switch {
		case e != api.OK:
			return nil, r.At(), e
		case k == api.WEnd && (len(open) == 0 || open[len(open)-1] != n):
			return nil, at, api.ErrGroup
		case k == api.WEnd:
			return l, r.At(), api.OK
		case k == api.WStart && len(open) == 63:
			return nil, at, api.ErrDepth
		case k == api.WStart:
			var place int
			if rec.Inner, place, e = byKind(r, append(open, n)); e != api.OK {
				return nil, place, e
			}
		case k == api.WText:
			rec.Text, e = r.Text()
		case k == api.WVarint:
			rec.Num, e = r.Varint()
		case k == api.WFixed64:
			rec.Num, e = r.Fixed(8)
		case k == api.WFixed32:
			rec.Num, e = r.Fixed(4)
		}
		if e != api.OK {
			return nil, r.At(), e
		}
		l = append(l, rec)
	}
	if len(open) > 0 {
		return nil, r.At(), api.ErrEnds
	}
	return l, 0, api.OK
}

func TestReadLikeSplit(t *testing.T) { // P213
	eachTry(t, func(b []byte) {
		for _, strict := range []bool{true, false} {
			l, at, e := wire.Split(b, strict)
			got, place, err := byKind(reader(t, b, strict), nil)
			if err != e || place != at || !same(got, l) {
				t.Fatalf("P213: %x by Tag and the call for its kind: %+v, %d, %v; Split: %+v, %d, %v", b, got, place, err, l, at, e)
			}
			places, err := bySkip(t, b, strict)
			last := places[len(places)-1]
			if err != e || e != api.OK && last != at || e == api.OK && (last != len(b) || len(places) != len(l)+1) {
				t.Fatalf("P213: %x by Tag and Skip: %v, %v; Split: %d records, %d, %v", b, places, err, len(l), at, e)
			}
			for i := 0; e == api.OK && i < len(l); i++ {
				if one, _, e := wire.Split(b[places[i]:places[i+1]], strict); e != api.OK || !same(one, l[i:i+1]) {
					t.Fatalf("P213: %x, from %d to %d by Tag and Skip: %+v, %v, want %+v", b, places[i], places[i+1], one, e, l[i])
				}
			}
		}
	})
	for _, n := range []int{62, 63, 64, 65} {
		b := unhex(groups(n))
		_, at, e := wire.Split(b, true)
		if places, err := bySkip(t, b, true); err != e || e != api.OK && places[len(places)-1] != at {
			t.Errorf("P213: %d groups by Tag and Skip: %v, %v; Split: %d, %v", n, places, err, at, e)
		}
	}
}

func TestAnyOrderOfCalls(t *testing.T) { // P213, P210
	rnd := rand.New(rand.NewSource(213))
	calls := []read{{name: "Varint"}, {name: "Tag"}, {name: "Text"}, {name: "Fixed", size: 4}, {name: "Fixed", size: 8}, {name: "Fixed", size: 3}}
	for kind := -1; kind < 7; kind++ {
		calls = append(calls, read{name: "Skip", number: 1, kind: kind, depth: 1}, read{name: "Skip", number: 2, kind: kind, depth: 3}, read{name: "Skip", number: 0, kind: kind})
	}
	for range 3000 {
		b := slowJoin(rnd, someRecords(rnd, 3), 1)
		if rnd.Intn(2) == 0 {
			rnd.Read(b)
		}
		strict := rnd.Intn(2) == 0
		r := reader(t, b, strict)
		for range 20 {
			at, c := r.At(), calls[rnd.Intn(len(calls))]
			if r.More() != (at < len(b)) {
				t.Fatalf("P210: %x: More %v at %d", b, r.More(), at)
			}
			got, e, to := c.do(r)
			want, err, step := c.do(reader(t, b[at:], strict))
			if got != want || e != err || to != at+step {
				t.Fatalf("P213: %x, strict %v, at %d: %+v: %s, %v, At %d; from there on alone: %s, %v, At %d", b, strict, at, c, got, e, to, want, err, at+step)
			}
			if e != api.OK && c.name != "Skip" && to != at {
				t.Fatalf("P210: %x, at %d: %+v: %v, At %d", b, at, c, e, to)
			}
		}
	}
}
