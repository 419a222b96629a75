package strict_test

import (
	"testing"

	"sigil/api"
)

func TestExamples(t *testing.T) { // the chapter's examples of what is read, and the document's 1 to 4
	s := load(t, small)
	for _, c := range []struct {
		b    string
		want api.Value
	}{
		{"", msg()},
		{"08 96 01", one(1, num(150))},
		{"08 ff ff ff ff ff ff ff ff ff 01", one(1, num(-1))},
		{"12 02 68 69", one(2, text("hi"))},
		{"1a 02 02 01", one(3, list(num(1), num(-1)))},
		{"28 00", one(5, num(0))},
		{"22 04 0a 00 12 00", one(4, dict(kv("", msg())))},
		{"35 01 00 00 00", one(6, num(1))},
		{"3a 00", one(7, msg())},
	} {
		reads(t, s, "p.M", row(c.b), c.want)
	}
	reads(t, s, "p.M", nil, msg())
}

func TestExamplesOfFaults(t *testing.T) { // the chapter's examples 1 to 5, and the document's 5
	s := load(t, small)
	for _, c := range []struct {
		b  string
		at int
		e  api.Errno
	}{
		{"08 96 81 00", 1, api.ErrLonger}, {"08", 1, api.ErrEnds}, {"08 80 80 80 80 10", 1, api.ErrForm},
		{"08 00", 1, api.ErrZero}, {"12 00", 1, api.ErrZero}, {"28 02", 1, api.ErrForm}, {"12 01 ff", 2, api.ErrUtf8}, {"12 05 61", 1, api.ErrEnds},
		{"18 02", 0, api.ErrWire}, {"10 01", 0, api.ErrWire}, {"1a 00", 1, api.ErrEmpty}, {"1a 02 02 81", 3, api.ErrEnds}, {"1a 01 02 1a 01 02", 3, api.ErrOrder},
		{"28 00 08 01", 2, api.ErrOrder}, {"40 01", 0, api.ErrStranger}, {"00", 0, api.ErrNumber}, {"0e", 0, api.ErrKind}, {"0b", 0, api.ErrWire},
		{"22 02 0a 00", 4, api.ErrPair}, {"22 02 12 00", 2, api.ErrPair}, {"22 00", 2, api.ErrPair}, {"22 06 0a 00 12 00 18 01", 6, api.ErrPair},
		{"22 05 0a 01 62 12 00 22 05 0a 01 61 12 00", 10, api.ErrKeys}, {"35 01 00 00 00 3a 00", 5, api.ErrBoth}, {"3a 00 35 01 00 00 00", 2, api.ErrOrder},
	} {
		refuses(t, s, "p.M", row(c.b), c.at, c.e)
	}
}

func TestExamplesOfDepth(t *testing.T) { // the chapter's example 6
	s := load(t, small)
	b, v := []byte(nil), msg()
	for range 63 {
		b, v = record(7, b), one(7, v)
	}
	reads(t, s, "p.M", b, v)
	b = record(7, b)
	refuses(t, s, "p.M", b, len(b)-2, api.ErrDepth)
}
