package view_test

import (
	"testing"

	"sigil/api"
)

func TestExampleOfBlindness(t *testing.T) { // the chapter's first example
	v := opens(t, "08 05 12 01 ff")
	v.scalar(t, "a", num(5))
	v.asked(t, "b", true, api.ErrUtf8, noMany, noMessage)
	v.message(t, "", api.ErrUtf8, "08 05 12 01 ff")
}

func TestExampleOfPieces(t *testing.T) { // the second one
	v := opens(t, "3a 02 08 05 3a 02 12 00")
	v.scalar(t, "g.a", num(5))
	v.message(t, "g", one(1, num(5)), "08 05 12 00")
	v.scalar(t, "g.b", nil)
	v = opens(t, "3a 01 08")
	v.message(t, "g", api.ErrEnds, "08")
	v.scalar(t, "g.a", api.ErrEnds)
}

func TestExampleOfBlocks(t *testing.T) { // the third one
	v := opens(t, "1a 02 02 80")
	v.many(t, "c", api.ErrEnds, api.ErrEnds)
	v.scalar(t, "a", nil)
	v = opens(t, "18 02 1a 01 04")
	v.many(t, "c", list(num(1), num(2)), 2)
	v.scalar(t, "c[1]", num(2))
}

func TestExampleOfPairs(t *testing.T) { // the fourth one
	v := opens(t, "22 03 0a 01 6b 22 04 12 02 08 07 22 05 0a 01 6b 12 00")
	v.many(t, "d", dict(kv("", one(1, num(7))), kv("k", msg())), 2)
	v.scalar(t, `d[""].a`, num(7))
	v.scalar(t, `d["k"].a`, nil)
	v.message(t, `d["k"]`, msg(), "")
	v = opens(t, "22 03 0a 01 ff")
	v.asked(t, "d", true, api.ErrUtf8, api.ErrUtf8, noMessage)
}

func TestExampleOfMembers(t *testing.T) { // the fifth one
	v := opens(t, "35 01 00 00 00 3a 02 08 01 35 02 00 00 00 3a 02 12 00")
	v.scalar(t, "f", nil)
	v.message(t, "g", msg(), "12 00")
}

func TestExampleOfTypes(t *testing.T) { // the sixth one
	v := opens(t, "")
	v.asked(t, "a", false, nil, api.ErrWhole, noMessage)
	v.asked(t, "c", false, nil, 0, api.ErrNoMessage)
	v.message(t, "g", nil, nil)
	v.fails(t, "c.a", api.ErrInto)
}

func TestExampleOfOpen(t *testing.T) { // the seventh one
	refuses(t, smallSchema(), "p.M", row("08"), 1, api.ErrEnds)
	refuses(t, smallSchema(), "p.M", row("3a 05"), 1, api.ErrEnds)
	opens(t, "0b 0c").message(t, "", msg(), "0b 0c")
}
