package loose_test

import (
	"bytes"
	"strings"
	"testing"

	"sigil/api"
	"sigil/bind"
	"sigil/encode"
	"sigil/loose"
	"sigil/strict"
	"sigil/tree"
)

// canonical are the canonical bytes of a tree.
func canonical(t *testing.T, s *bind.Schema, name string, v api.Value) []byte {
	t.Helper()
	b, e := encode.New(s).Encode(name, v)
	if e != api.OK {
		t.Fatalf("Encode(%s): %v", short(v), e)
	}
	return b
}

// looked looks at all that is promised of the canonical bytes of bytes.
func looked(t *testing.T, s *bind.Schema, name string, b []byte) bool {
	t.Helper()
	v, place, e := loose.Decode(s, name, b)
	out, at, f := loose.Canonical(s, name, b)
	if e != f || place != at {
		t.Errorf("P1106: of %s Decode answers %v at %d, Canonical %v at %d", some(b), e, place, f, at)
	}
	w, _, x := strict.Decode(s, name, b)
	if x == api.OK && (e != api.OK || !same(v, w)) {
		t.Errorf("P1109: strict reads %s as %s, loose as %s, %v", some(b), short(w), short(v), e)
	}
	if e != api.OK {
		return false
	}
	if trail, e := tree.Normal(s, name, v); e != api.OK {
		t.Errorf("P1109: %s is read as %s: %v at %v", some(b), short(v), e, trail)
	}
	if again, _, e := loose.Canonical(s, name, out); e != api.OK || !bytes.Equal(again, out) {
		t.Errorf("P1106: Canonical(%s) = %s, of which it is %s, %v", some(b), some(out), some(again), e)
	}
	if (x == api.OK) != bytes.Equal(out, b) {
		t.Errorf("P1106: Canonical(%s) = %s, strict answers %v", some(b), some(out), x)
	}
	if back, _, e := strict.Decode(s, name, out); e != api.OK || !same(back, v) {
		t.Errorf("P1106: Canonical(%s) = %s, which strict reads as %s, %v; the tree is %s", some(b), some(out), short(back), e, short(v))
	}
	return x == api.OK
}

func TestCanonical(t *testing.T) { // P1106, P1109: idempotent; the bytes themselves just if they are canonical; what strict takes
	s := wideSchema()
	itself, others := 0, 0
	count := func(b []byte, name string) {
		if looked(t, s, name, b) {
			itself++
		} else {
			others++
		}
	}
	for seed := range int64(700) {
		for _, name := range s.Messages() {
			m := newMaker(seed)
			count(m.written(name, 1+m.Intn(4)), name)
			b := canonical(t, s, name, m.normal(name))
			count(b, name)
			count(m.mangled(b), name)
		}
	}
	if itself < 2000 || others < 2000 {
		t.Errorf("%d rows are canonical, %d not: too few", itself, others)
	}
}

func TestCanonicalSmallRows(t *testing.T) { // P1106, P1109: all rows of two bytes, many of three
	s := smallSchema()
	for i := range 1 << 16 {
		looked(t, s, "p.M", []byte{byte(i), byte(i >> 8)})
	}
	letters := row("00 01 02 08 0a 12 1a 22 28 3a 61 80")
	for _, a := range letters {
		for _, b := range letters {
			for _, c := range letters {
				looked(t, s, "p.M", []byte{a, b, c})
			}
		}
	}
}

// upon looks whether bytes and canonical bytes behind them are read as the tree of the first with the second one's laid upon it.
func upon(t *testing.T, s *bind.Schema, name string, x []byte, m api.Value) {
	t.Helper()
	a, _, e := loose.Decode(s, name, x)
	if e != api.OK {
		t.Errorf("P1101: Decode(%s): %v", some(x), e)
		return
	}
	all := rows(x, canonical(t, s, name, m))
	if len(all) > api.MaxMessage {
		t.Errorf("%d bytes are too many", len(all))
		return
	}
	want, _, e := loose.Merge(s, name, a, m)
	v, place, f := loose.Decode(s, name, all)
	if e != f || place != 0 || !same(v, want) {
		t.Errorf("P1110: Decode(%s) = %s, %d, %v, Merge answers %s, %v", some(all), short(v), place, f, short(want), e)
	}
}

func TestLaidUpon(t *testing.T) { // P1110: bytes of any form, canonical bytes behind them
	s := wideSchema()
	for seed := range int64(1000) {
		for _, name := range s.Messages() {
			m := newMaker(seed)
			upon(t, s, name, m.written(name, 1+m.Intn(4)), m.normal(name))
			upon(t, s, name, canonical(t, s, name, m.normal(name)), m.normal(name))
		}
	}
}

func TestLaidUponEachField(t *testing.T) { // P1110: every two fields, and each upon itself
	s := wideSchema()
	info, _ := s.Message("w.W")
	held := func(f api.Field, v api.Value) api.Value {
		switch f.Card {
		case api.CRepeated:
			return one(f.Number, list(v))
		case api.CMap:
			keys, _ := keysOf(f.Key)
			return one(f.Number, dict(pair(keys[0], v)))
		}
		return one(f.Number, v)
	}
	for i, f := range info.Fields {
		for j, g := range info.Fields {
			a, _ := valuesOf(f)
			_, b := valuesOf(g)
			if i == j || f.Oneof > 0 && f.Oneof == g.Oneof || (i+j)%7 == 0 {
				upon(t, s, "w.W", canonical(t, s, "w.W", held(f, a)), held(g, b))
			}
		}
	}
}

func TestLaidUponTooLarge(t *testing.T) { // P1110: ErrSize on both sides; MaxMessage bytes together
	s := wideSchema()
	negative := list()
	for range 30000 {
		negative.List = append(negative.List, num(-1))
	}
	x := negatives(80000) // 800000 bytes as they are written anew
	upon(t, s, "w.W", x, one(repeated+api.TInt32, negative))
	upon(t, s, "w.W", x, one(api.TMessage, one(repeated+api.TInt32, negative)))
	if _, _, e := loose.Decode(s, "w.W", rows(x, canonical(t, s, "w.W", one(repeated+api.TInt32, negative)))); e != api.ErrSize {
		t.Errorf("P1110: what is too large together: %v", e)
	}
	half := strings.Repeat("x", api.MaxMessage/2-4)
	upon(t, s, "w.W", record(api.TString, []byte(half)), one(api.TBytes, text(half)))
	upon(t, s, "w.W", record(api.TString, []byte(half)), one(api.TString, text(half)))
}

func TestNotForEveryRow(t *testing.T) { // P1110: bytes behind that are not canonical may do otherwise: an implicit zero, a member that is taken away again
	s := smallSchema()
	for _, c := range []struct {
		x, y         string
		both, merged api.Value
	}{
		{"08 05", "08 00", msg(), one(1, num(5))},
		{"3a 02 08 05", "35 00 00 00 00 3a 00", one(7, msg()), one(7, one(1, num(5)))},
	} {
		reads(t, s, "p.M", rows(row(c.x), row(c.y)), c.both)
		a, _, _ := loose.Decode(s, "p.M", row(c.x))
		b, _, _ := loose.Decode(s, "p.M", row(c.y))
		merges(t, s, "p.M", a, b, c.merged)
	}
}

func TestEnds(t *testing.T) { // P1, P1109: Decode ends for all bytes: made ones of many lengths, without any form
	s := wideSchema()
	seen := map[api.Errno]int{}
	for seed := range int64(3000) {
		m := newMaker(seed)
		b := make([]byte, m.Intn(40))
		for i := range b {
			b[i] = byte(m.Intn(256))
			if m.Intn(3) > 0 {
				b[i] = []byte{0x08, 0x0a, 0x0b, 0x0c, 0x12, 0x1a, 0x8a, 0x01, 0x02, 0x00, 0x72}[m.Intn(11)]
			}
		}
		for _, name := range s.Messages() {
			seen[judged(t, s, name, b)]++
		}
	}
	if len(seen) < 6 {
		t.Errorf("too few errors: %v", seen)
	}
	for _, c := range []byte{0x00, 0x08, 0x0b, 0x12, 0x3a, 0x80, 0xff} { // as many bytes as there may be, all the same
		b := bytes.Repeat([]byte{c}, api.MaxMessage)
		a, want := ask(s, "w.W", b), secondly(s, "w.W", b)
		if a.err != want.bad.err || a.at != want.bad.at {
			t.Errorf("P1101: many bytes %#x: %v at %d, want %+v", c, a.err, a.at, want.bad)
		}
	}
}
