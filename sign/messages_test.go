package sign_test

import (
	"bytes"
	"strings"
	"testing"

	"sigil/api"
	"sigil/bind"
	"sigil/digest"
	"sigil/encode"
	"sigil/sign"
)

// speaks looks at the preimage and the print of a message, by the second reading, and tells the preimage.
func speaks(t *testing.T, s *bind.Schema, name string, m api.Value) []byte {
	t.Helper()
	want := secondPreimage(s, name, m)
	b, e := sign.Preimage(s, name, m)
	if e != api.OK || !bytes.Equal(b, want) {
		t.Errorf("P1603: Preimage(%q, %s) = %.200x, %v, want %.200x", name, short(m), b, e, want)
	}
	d, e := sign.Message(s, name, m)
	if e != api.OK || !bytes.Equal(d, sum(want)) {
		t.Errorf("P1603: Message(%q, %s) = %x, %v, want %x", name, short(m), d, e, sum(want))
	}
	return b
}

func TestPreimages(t *testing.T) { // P1603: the frame of the four parts, and its digest
	s := smallSchema()
	for _, m := range []api.Value{msg(), example(), one(1, num(-1)), one(2, text("hi")), one(5, num(0)), one(4, dict(kv("", msg()))), one(7, one(7, msg())), chain(63, 7, msg()), one(2, big(api.MaxMessage-4))} {
		b := speaks(t, s, "p.M", m)
		parts, e := digest.Parts(b)
		if e != api.OK || len(parts) != 4 || string(parts[0]) != "sigil.message" || !bytes.Equal(parts[1], sign.Schema(s)) || string(parts[2]) != "p.M" {
			t.Errorf("P1603: the parts of Preimage(%s): %d, %v", short(m), len(parts), e)
			continue
		}
		if in, _ := encode.New(s).Encode("p.M", m); !bytes.Equal(parts[3], in) {
			t.Errorf("P1603: the last part of Preimage(%s) are not its bytes", short(m))
		}
	}
	for _, c := range mades(t, 300) {
		speaks(t, c.s, c.name, c.m)
	}
}

func TestMessageErrors(t *testing.T) { // P1603: the errors of encode's Encode
	s := smallSchema()
	for _, c := range []struct {
		name string
		m    api.Value
		e    api.Errno
	}{
		{strings.Repeat("x", 256), num(0), api.ErrLong},
		{strings.Repeat("x", 255), num(0), api.ErrName},
		{"", msg(), api.ErrName},
		{"p.N", nested(200, num(0)), api.ErrName},
		{"p.M", nested(200, num(0)), api.ErrDepth},
		{"p.M", nested(199, num(0)), api.ErrType},
		{"p.M", num(0), api.ErrType},
		{"p.M", api.Value{}, api.ErrType},
		{"p.M", msg(at(1, num(0)), at(9, num(0))), api.ErrType},
		{"p.M", one(1, num(0)), api.ErrNormal},
		{"p.M", msg(at(1, num(0)), at(7, chain(64, 7, msg()))), api.ErrNormal},
		{"p.M", chain(64, 7, msg()), api.ErrDepth},
		{"p.M", msg(at(2, big(api.MaxMessage)), at(7, chain(64, 7, msg()))), api.ErrDepth},
		{"p.M", one(2, big(api.MaxMessage-3)), api.ErrSize},
		{"p.M", one(3, many(api.MaxMessage)), api.ErrSize},
		{"p.M", one(3, many(api.MaxValues-2)), api.ErrSize},
		{"p.M", one(3, many(api.MaxValues-1)), api.ErrLong},
	} {
		messageRefuses(t, s, c.name, c.m, c.e)
		if _, e := encode.New(s).Encode(c.name, c.m); e != c.e {
			t.Errorf("Encode(%.20q, %s): %v, want %v", c.name, short(c.m), e, c.e)
		}
	}
	for seed := range int64(2000) {
		m := newMaker(seed)
		v := m.normal(t, wideSchema(), "w.W")
		for range 3 {
			v = m.broken(v)
		}
		if _, e := encode.New(wideSchema()).Encode("w.W", v); e != api.OK {
			messageRefuses(t, wideSchema(), "w.W", v, e)
		} else {
			speaks(t, wideSchema(), "w.W", v)
		}
	}
}

// asked is what a preimage is made of, and what it is.
type asked struct {
	made
	schema, bytes, preimage, print []byte
}

func TestSamePreimages(t *testing.T) { // P1604: two preimages are the same just if the schema prints, the names and the canonical bytes are; then so are trees of the same schema and type
	cases := mades(t, 150)
	trees := []api.Value{msg(), one(1, num(1)), one(1, num(2)), one(2, text("")), one(2, text("\x08\x01")), one(2, text("M")), one(3, msg()), one(3, one(1, num(1))), one(2, text("sigil.message"))}
	for _, text := range []string{
		"message M { int32 a = 1; optional bytes b = 2; M m = 3; } message N { int32 a = 1; optional bytes b = 2; N m = 3; }",
		"message N { optional bytes b = 2; int32 a = 1; N m = 3; } message M { M m = 3; optional bytes b = 2; int32 a = 1; }",
		"message M { int64 a = 1; optional string b = 2; M m = 3; } message N { int32 a = 1; optional bytes b = 2; M m = 3; }",
		"message M { sint32 a = 1; optional bytes b = 2; M m = 3; } message MM { int32 a = 1; optional bytes b = 2; M m = 3; }",
		"package M; message M { int32 a = 1; optional bytes b = 2; M m = 3; }",
	} {
		s := load(t, text)
		for _, name := range s.Messages() {
			for _, m := range trees {
				cases = append(cases, made{s, name, m})
			}
		}
	}
	var l []asked
	for _, c := range cases {
		b, e := encode.New(c.s).Encode(c.name, c.m)
		if e != api.OK {
			t.Fatal(e)
		}
		a := asked{made: c, schema: sign.Schema(c.s), bytes: b, preimage: speaks(t, c.s, c.name, c.m)}
		a.print, _ = sign.Message(c.s, c.name, c.m)
		l = append(l, a)
	}
	alike := 0
	for i, a := range l {
		for _, b := range l[:i] {
			want := a.name == b.name && bytes.Equal(a.schema, b.schema) && bytes.Equal(a.bytes, b.bytes)
			if got := bytes.Equal(a.preimage, b.preimage); got != want {
				t.Fatalf("P1604: %q %s and %q %s: same preimages: %v, want %v", a.name, short(a.m), b.name, short(b.m), got, want)
			}
			if got := bytes.Equal(a.print, b.print); got != want {
				t.Fatalf("P1604: %q %s and %q %s: same prints: %v, want %v", a.name, short(a.m), b.name, short(b.m), got, want)
			}
			if want && !same(a.m, b.m) {
				t.Fatalf("P1604: %s and %s have one preimage", short(a.m), short(b.m))
			}
			if want {
				alike++
			}
		}
	}
	if alike < 10 {
		t.Errorf("%d are alike: too few", alike)
	}
}
