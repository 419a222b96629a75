package loose_test

import (
	"testing"

	"sigil/api"
)

func TestExamples(t *testing.T) { // the chapter's examples 1 to 6 and 10 of what is read, the document's 1, 6 and 7
	s := smallSchema()
	for _, c := range []struct {
		b     string
		want  api.Value
		skips []api.Skip
	}{
		{"", msg(), nil}, {"08 05 08 00", msg(), nil}, {"08 80 80 80 80 10", msg(), nil}, {"08 ff ff ff ff 0f", one(1, num(-1)), nil}, {"28 02", one(5, num(1)), nil},
		{"18 02 1a 02 01 04 18 06", one(3, list(num(1), num(-1), num(2), num(3))), nil}, {"1a 00", msg(), nil},
		{"35 01 00 00 00 3a 00", one(7, msg()), nil}, {"3a 02 08 01 35 00 00 00 00", one(6, num(0)), nil}, {"3a 02 08 01 3a 03 12 01 78", one(7, msg(at(1, num(1)), at(2, text("x")))), nil},
		{"22 00", one(4, dict(kv("", msg()))), nil}, {"22 03 0a 01 6b 22 05 12 00 0a 01 6b", one(4, dict(kv("k", msg()))), nil}, {"22 04 08 07 12 00", one(4, dict(kv("", msg()))), []api.Skip{skip(2, 1, 0, 4)}},
		{"42 01 ff", msg(), []api.Skip{skip(0, 8, 2)}}, {"0b 08 01 0c", msg(), []api.Skip{skip(0, 1, 3)}},
		{"10 01 08 05 40 00", one(1, num(5)), []api.Skip{skip(0, 2, 0), skip(4, 8, 0)}},
		{"40 01 4b 50 07 4c 08 01", one(1, num(1)), []api.Skip{skip(0, 8, 0), skip(2, 9, 3)}},
	} {
		reads(t, s, "p.M", row(c.b), c.want, c.skips...)
	}
	reads(t, s, "p.M", nil, msg())
}

func TestExamplesOfFaults(t *testing.T) { // the chapter's examples 2, 5, 6 and 7
	s := smallSchema()
	for _, c := range []struct {
		b  string
		at int
		e  api.Errno
	}{
		{"1a 02 80 80", 2, api.ErrEnds}, {"1a 01", 1, api.ErrEnds}, {"12 01 ff", 2, api.ErrUtf8}, {"22 03 0a 01 ff", 4, api.ErrUtf8},
		{"0c", 0, api.ErrGroup}, {"0b 14", 1, api.ErrGroup}, {"0b", 1, api.ErrEnds}, {"3a 01 0c", 2, api.ErrGroup}, {"3a 01 0b 0c", 3, api.ErrEnds},
		{"07", 0, api.ErrNumber}, {"0f", 0, api.ErrKind}, {"80", 0, api.ErrEnds}, {"08", 1, api.ErrEnds}, {"12 02 61", 1, api.ErrEnds},
	} {
		refuses(t, s, "p.M", row(c.b), c.at, c.e)
	}
}

func TestExamplesOfDepth(t *testing.T) { // the chapter's example 8
	s := smallSchema()
	within := func(levels int, b []byte, v api.Value) ([]byte, api.Value) {
		for range levels {
			b, v = record(7, b), one(7, v)
		}
		return b, v
	}
	b, v := within(63, nil, msg())
	reads(t, s, "p.M", b, v)
	b, v = within(63, row("18 02"), one(3, list(num(1))))
	reads(t, s, "p.M", b, v)
	for _, in := range []string{"3a 00", "22 00", "4b 4c"} {
		b, _ = within(63, row(in), msg())
		refuses(t, s, "p.M", b, len(b)-2, api.ErrDepth)
	}
}

func TestExamplesOfMerge(t *testing.T) { // the chapter's example 9
	s := smallSchema()
	merges(t, s, "p.M", msg(at(1, num(1)), at(3, list(num(1)))), msg(at(2, text("x")), at(3, list(num(2)))), msg(at(1, num(1)), at(2, text("x")), at(3, list(num(1), num(2)))))
	merges(t, s, "p.M", one(6, num(1)), one(7, msg()), one(7, msg()))
}
