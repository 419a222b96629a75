package tree_test

import (
	"testing"

	"sigil/api"
	"sigil/tree"
)

func TestExamples(t *testing.T) { // the chapter's examples 1 to 3 and 8
	s := load(t, small)
	deep := times(64, 7)
	for _, c := range []struct {
		v             api.Value
		loose, strict answer
	}{
		{msg(), fine(), fine()},
		{num(0), fault(api.ErrType), fault(api.ErrType)},
		{one(1, num(2147483648)), fault(api.ErrType, 1), fault(api.ErrType, 1)},
		{one(1, num(-1)), fine(), fine()},
		{msg(at(1, num(1)), at(1, num(2))), fine(), fault(api.ErrNormal, 1)},
		{msg(at(2, text("x")), at(1, num(0))), fine(), fault(api.ErrNormal, 1)},
		{one(8, num(0)), fault(api.ErrType, 8), fault(api.ErrType, 8)},
		{one(2, text("\xff")), fault(api.ErrType, 2), fault(api.ErrType, 2)},
		{one(1, api.Value{Kind: api.VNum, Num: 1, Text: "x"}), fault(api.ErrType, 1), fault(api.ErrType, 1)},
		{one(3, list(num(1), text(""))), fault(api.ErrType, 3, 1), fault(api.ErrType, 3, 1)},
		{one(4, dict(pair(text("k")))), fault(api.ErrType, 4, 0), fault(api.ErrType, 4, 0)},
		{one(4, dict(kv("k", one(9, num(0))))), fault(api.ErrType, 4, 0, 2, 9), fault(api.ErrType, 4, 0, 2, 9)},
		{one(1, num(0)), fine(), fault(api.ErrNormal, 1)},
		{one(5, num(0)), fine(), fine()},
		{msg(at(2, text("x")), at(1, num(1))), fine(), fault(api.ErrNormal, 1)},
		{one(3, list()), fine(), fault(api.ErrNormal, 3)},
		{msg(at(6, num(0)), at(7, msg())), fine(), fault(api.ErrNormal, 7)},
		{one(4, dict(kv("b", msg()), kv("a", one(1, num(0))))), fine(), fault(api.ErrNormal, 4, 1)},
		{msg(at(1, num(0)), at(9, num(1))), fault(api.ErrType, 9), fault(api.ErrType, 9)},
		{chain(63, 7, msg()), fine(), fine()},
		{chain(64, 7, msg()), fault(api.ErrDepth, deep...), fault(api.ErrDepth, deep...)},
		{nested(200, list()), fault(api.ErrDepth), fault(api.ErrDepth)},
	} {
		check(t, s, "p.M", c.v, c.loose, c.strict)
	}
	if n := tree.Depth(chain(63, 7, msg())); n != 64 {
		t.Errorf("P807: Depth of 64 messages is %d", n)
	}
}

func TestExamplesOfNormalise(t *testing.T) { // the chapter's example 4
	s := load(t, small)
	for _, c := range []struct{ v, want api.Value }{
		{msg(at(2, text("x")), at(1, num(5)), at(3, list()), at(1, num(0))), one(2, text("x"))},
		{msg(at(7, one(1, num(1))), at(6, num(2)), at(7, msg())), one(7, msg())},
		{one(4, dict(kv("b", one(1, num(1))), kv("a", msg()), kv("b", msg()))), one(4, dict(kv("a", msg()), kv("b", msg())))},
	} {
		meant(t, s, "p.M", c.v, c.want)
	}
}

func TestExamplesOfOthers(t *testing.T) { // the chapter's examples 5 to 7
	s := load(t, small)
	sized(t, s, "p.M", one(1, num(150)), 3)
	sized(t, s, "p.M", one(1, num(-1)), 11)
	sized(t, s, "p.M", one(4, dict(kv("", msg()))), 6)
	sized(t, s, "p.M", msg(), 0)
	ordered(t, num(1), text(""), -1)
	ordered(t, num(-1), num(0), -1)
	keys(t, api.TUint64, num(-1), num(0), 1)
	keys(t, api.TInt64, num(-1), num(0), -1)
	keys(t, api.TString, text("a"), text("a\x00"), -1)
	deep(t, num(3), 0)
	deep(t, msg(), 1)
	deep(t, list(msg(), one(7, msg())), 2)
}
