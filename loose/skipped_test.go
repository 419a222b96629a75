package loose_test

import (
	"slices"
	"testing"

	"sigil/api"
	"sigil/loose"
	"sigil/wire"
)

func TestSkipped(t *testing.T) { // P1107: what is passed over: of every kind, at the top, in messages, lists, pairs, the messages of pairs, by their places
	s := smallSchema()
	for _, c := range []struct {
		b     string
		want  api.Value
		skips []api.Skip
	}{
		{"08 01", one(1, num(1)), nil},
		{"40 01", msg(), []api.Skip{skip(0, 8, 0)}}, {"41 01 02 03 04 05 06 07 08", msg(), []api.Skip{skip(0, 8, 1)}}, {"42 00", msg(), []api.Skip{skip(0, 8, 2)}}, {"43 44", msg(), []api.Skip{skip(0, 8, 3)}}, {"45 01 02 03 04", msg(), []api.Skip{skip(0, 8, 5)}},
		{"40 01 08 05 42 01 61 08 06 45 01 02 03 04", one(1, num(6)), []api.Skip{skip(0, 8, 0), skip(4, 8, 2), skip(9, 8, 5)}},
		{"f8 ff ff ff 0f 01", msg(), []api.Skip{skip(0, api.MaxNumber, 0)}}, {"c0 80 80 00 01", msg(), []api.Skip{skip(0, 8, 0)}},
		// fields under other kinds
		{"0a 01 61", msg(), []api.Skip{skip(0, 1, 2)}}, {"10 05 15 01 02 03 04", msg(), []api.Skip{skip(0, 2, 0), skip(2, 2, 5)}}, {"1d 01 02 03 04", msg(), []api.Skip{skip(0, 3, 5)}}, {"20 01 28 01", one(5, num(1)), []api.Skip{skip(0, 4, 0)}}, {"2a 01 01", msg(), []api.Skip{skip(0, 5, 2)}}, {"30 01 38 01", msg(), []api.Skip{skip(0, 6, 0), skip(2, 7, 0)}},
		// in messages, also in those that are replaced or taken away
		{"3a 02 40 01", one(7, msg()), []api.Skip{skip(2, 8, 0, 7)}}, {"3a 04 3a 02 40 01", one(7, one(7, msg())), []api.Skip{skip(4, 8, 0, 7, 7)}}, {"40 01 3a 04 40 02 08 01 40 03", one(7, one(1, num(1))), []api.Skip{skip(0, 8, 0), skip(4, 8, 0, 7), skip(8, 8, 0)}},
		{"3a 02 40 01 35 00 00 00 00", one(6, num(0)), []api.Skip{skip(2, 8, 0, 7)}}, {"3a 02 40 01 3a 02 40 02", one(7, msg()), []api.Skip{skip(2, 8, 0, 7), skip(6, 8, 0, 7)}},
		// in pairs: those that are replaced too
		{"22 02 18 01", one(4, dict(kv("", msg()))), []api.Skip{skip(2, 3, 0, 4)}}, {"22 04 08 07 10 08", one(4, dict(kv("", msg()))), []api.Skip{skip(2, 1, 0, 4), skip(4, 2, 0, 4)}}, {"22 04 12 02 48 00", one(4, dict(kv("", msg()))), []api.Skip{skip(4, 9, 0, 4, 2)}}, {"22 02 18 01 22 00", one(4, dict(kv("", msg()))), []api.Skip{skip(2, 3, 0, 4)}},
		{"22 08 18 01 12 02 48 00 20 01", one(4, dict(kv("", msg()))), []api.Skip{skip(2, 3, 0, 4), skip(6, 9, 0, 4, 2), skip(8, 4, 0, 4)}}, {"22 08 12 02 40 01 12 02 48 02", one(4, dict(kv("", msg()))), []api.Skip{skip(4, 8, 0, 4, 2), skip(8, 9, 0, 4, 2)}},
		{"22 08 12 06 22 04 12 02 48 00", one(4, dict(kv("", one(4, dict(kv("", msg())))))), []api.Skip{skip(8, 9, 0, 4, 2, 4, 2)}}, {"3a 06 22 04 12 02 48 00", one(7, one(4, dict(kv("", msg())))), []api.Skip{skip(6, 9, 0, 7, 4, 2)}}, {"22 06 12 04 3a 02 48 00", one(4, dict(kv("", one(7, msg())))), []api.Skip{skip(6, 9, 0, 4, 2, 7)}},
		// groups: what lies in them is not told
		{"43 40 01 43 44 42 01 61 44 40 01", msg(), []api.Skip{skip(0, 8, 3), skip(9, 8, 0)}}, {"3b 3a 02 40 01 3c 3a 02 40 01", one(7, msg()), []api.Skip{skip(0, 7, 3), skip(8, 8, 0, 7)}}, {"22 05 43 40 01 44 00", api.Value{}, nil}, {"22 04 43 40 01 44", one(4, dict(kv("", msg()))), []api.Skip{skip(2, 8, 3, 4)}}, {"22 06 12 04 43 40 01 44", one(4, dict(kv("", msg()))), []api.Skip{skip(4, 8, 3, 4, 2)}},
		// an empty block, a number of a list, are known
		{"1a 00 18 02 08 00", one(3, list(num(1))), nil},
	} {
		if c.want.Kind == 0 {
			refuses(t, s, "p.M", row(c.b), 6, api.ErrNumber)
			continue
		}
		reads(t, s, "p.M", row(c.b), c.want, c.skips...)
	}
}

func TestSkippedInLists(t *testing.T) { // P1107: a list's messages all have the list's number; no index is in a trail, and no key
	s := wideSchema()
	in := rows(tag(unknown, 0), row("05"))
	l := record(repeated+api.TMessage, in)
	b := rows(l, record(repeated+api.TMessage), l, record(mapV, row("08 07"), record(2, tag(unknown, 0), row("05"), record(2, l))))
	n := len(l)
	reads(t, s, "w.W", b, msg(at(repeated+17, list(msg(), msg(), msg())), at(mapV, dict(pair(num(7), one(2, one(repeated+17, list(msg()))))))),
		skip(n-3, unknown, 0, repeated+17), skip(2*n, unknown, 0, repeated+17), skip(len(b)-n-5, unknown, 0, mapV, 2), skip(len(b)-3, unknown, 0, mapV, 2, 2, repeated+17))
}

func TestSkippedFaults(t *testing.T) { // P1107: Decode's errors, with nothing beside them, however much was passed over ahead
	s := wideSchema()
	ahead := rows(record(unknown, row("ff")), record(api.TMessage, tag(strange, 0), row("01")), tag(unknown, 3), tag(unknown, 4))
	for _, c := range typed() {
		refuses(t, s, "w.W", rows(ahead, c.b), len(ahead)+c.at, c.e)
	}
	for _, c := range splits() {
		refuses(t, s, "w.W", rows(ahead, c.b), len(ahead)+c.at, c.e)
	}
}

func TestSkippedTrailsApart(t *testing.T) { // P2: who changes one trail, or adds to it, changes no other
	s := wideSchema()
	in := rows(tag(unknown, 0), row("05"), tag(strange, 0), row("05"), record(17, tag(unknown, 0), row("05"), tag(strange, 0), row("05")), tag(unknown, 0), row("06"))
	b := record(17, record(17, in))
	want := secondly(s, "w.W", b).skips
	if len(want) != 5 {
		t.Fatalf("a second reading tells %v", want)
	}
	for i := range want {
		l, _, _ := loose.Skipped(s, "w.W", b)
		trail := append(l[i].Trail, 7, 7, 7)
		for k := range trail[:cap(trail)] {
			trail[:cap(trail)][k] = -1
		}
		for k := range l[i].Trail[:cap(l[i].Trail)] {
			l[i].Trail[:cap(l[i].Trail)][k] = -1
		}
		for j := range want {
			if i != j && !sameSkips(l[j:j+1], want[j:j+1]) {
				t.Errorf("P2: what is done with the trail %d is seen in %d: %v", i, j, l[j])
			}
		}
	}
}

// without are bytes of which the records of some places, at the top, are left out.
func without(t *testing.T, b []byte, skips []api.Skip) []byte {
	t.Helper()
	r, _ := wire.Read(b, false)
	var out []byte
	for r.More() {
		from := r.At()
		number, kind, e := r.Tag()
		if e == api.OK {
			e = r.Skip(number, kind, 63)
		}
		if e != api.OK {
			t.Fatalf("%v at %d of %s", e, r.At(), some(b))
		}
		if !slices.ContainsFunc(skips, func(s api.Skip) bool { return s.At == from && len(s.Trail) == 0 }) {
			out = append(out, b[from:r.At()]...)
		}
	}
	return out
}

func TestPassedOverChangesNothing(t *testing.T) { // P1108: without the records that Skipped tells of the bytes themselves they decode to the same tree, and none is told any more
	s := wideSchema()
	met := 0
	for seed := range int64(1200) {
		for _, name := range s.Messages() {
			m := newMaker(seed)
			b := m.written(name, 1+m.Intn(4))
			v, _, e := loose.Decode(s, name, b)
			skips, _, f := loose.Skipped(s, name, b)
			if e != api.OK || f != api.OK {
				t.Fatalf("P1101: %s: %v, %v", some(b), e, f)
			}
			left := without(t, b, skips)
			met += len(b) - len(left)
			w, _, e := loose.Decode(s, name, left)
			if e != api.OK || !same(v, w) {
				t.Fatalf("P1108: %s is read as %s, without what is passed over as %s, %v", some(b), short(v), short(w), e)
			}
			again, _, _ := loose.Skipped(s, name, left)
			if slices.ContainsFunc(again, func(s api.Skip) bool { return len(s.Trail) == 0 }) {
				t.Fatalf("P1108: of %s more is passed over: %v", some(left), again)
			}
			if inner := slices.DeleteFunc(skips, func(s api.Skip) bool { return len(s.Trail) == 0 }); len(inner) != len(again) {
				t.Fatalf("P1108: what is passed over within changes: %v, before it was %v", again, inner)
			}
		}
	}
	if met < 5000 {
		t.Errorf("%d bytes were passed over: too few", met)
	}
}

func TestNoneSkipped(t *testing.T) { // P1108: if none is told nothing was unknown in any part: so of canonical bytes, and of whatever is put into a part one is told
	s := wideSchema()
	for seed := range int64(500) {
		v := newMaker(seed).normal("w.W")
		b := canonical(t, s, "w.W", v)
		reads(t, s, "w.W", b, v)
		for _, in := range inParts() {
			if l, _, e := loose.Skipped(s, "w.W", rows(b, in.bytes(rows(tag(unknown, 0), row("00"))))); e != api.OK || len(l) < 1 || l[len(l)-1].Number != unknown {
				t.Fatalf("P1108: %s: %v, %v", in.name, l, e)
			}
		}
	}
}
