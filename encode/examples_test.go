package encode_test

import (
	"bytes"
	"slices"
	"strings"
	"testing"

	"sigil/api"
	"sigil/encode"
)

func TestExamples(t *testing.T) { // the chapter's examples 1 and 2, and the document's 1 to 4
	s := load(t, small)
	e := encode.New(s)
	for _, c := range []struct {
		v    api.Value
		want string
	}{
		{msg(), ""},
		{one(1, num(150)), "08 96 01"},
		{one(1, num(-1)), "08 ff ff ff ff ff ff ff ff ff 01"},
		{one(2, text("hi")), "12 02 68 69"},
		{one(3, list(num(1), num(-1))), "1a 02 02 01"},
		{one(5, num(0)), "28 00"},
		{one(4, dict(kv("", msg()))), "22 04 0a 00 12 00"},
		{one(6, num(1)), "35 01 00 00 00"},
		{one(7, msg()), "3a 00"},
		{one(7, one(7, msg())), "3a 02 3a 00"},
	} {
		written(t, s, e, "p.M", c.v, row(c.want))
		fresh(t, s, "p.M", c.v, row(c.want))
	}
}

func TestExamplesOfErrors(t *testing.T) { // the chapter's example 3
	e := encode.New(load(t, small))
	for _, c := range []struct {
		name string
		v    api.Value
		want api.Errno
	}{
		{"p.M", one(1, num(0)), api.ErrNormal},
		{"p.M", num(0), api.ErrType},
		{"p.M", one(9, num(0)), api.ErrType},
		{"p.N", msg(), api.ErrName},
		{"p.M", chain(64, 7, msg()), api.ErrDepth},
		{"p.M", one(2, text(strings.Repeat("x", 1<<20))), api.ErrSize},
	} {
		refused(t, e, c.name, c.v, 1, c.want, c.want)
	}
}

func TestExamplesOfFields(t *testing.T) { // the chapter's example 4
	e := encode.New(load(t, small))
	v := msg(at(1, num(150)), at(3, list(num(1))), at(5, num(1)))
	l, x := e.Spans("p.M", v)
	if want := []api.Span{{Number: 1, From: 0, To: 3}, {Number: 3, From: 3, To: 6}, {Number: 5, From: 6, To: 8}}; x != api.OK || !slices.Equal(l, want) {
		t.Errorf("P904: Spans = %v, %v, want %v", l, x, want)
	}
	for _, c := range []struct {
		v      api.Value
		number int
		want   string
		e      api.Errno
	}{
		{v, 3, "1a 01 02", api.OK}, {v, 2, "", api.OK}, {v, 8, "", api.ErrField}, {num(0), 8, "", api.ErrField}, {num(0), 1, "", api.ErrType},
	} {
		if b, x := e.Field("p.M", c.v, c.number); x != c.e || !bytes.Equal(b, row(c.want)) {
			t.Errorf("P904: Field(%s, %d) = % x, %v, want %s, %v", short(c.v), c.number, b, x, c.want, c.e)
		}
	}
}
