package path_test

import (
	"testing"

	"sigil/api"
)

func TestExamplesOfPaths(t *testing.T) { // P1303: the chapter's first example
	s := smallSchema()
	parses(t, s, "p.M", `d["k"].b`, field(4), key(text("k")), field(2))
	parses(t, s, "p.M", `c[1]`, field(3), index(1))
	parses(t, s, "p.M", ``)
	for p, e := range map[string]api.Errno{
		"c.a": api.ErrInto, "z": api.ErrNoField, "c[-1]": api.ErrIndex, "d[1]": api.ErrKeyText,
		"a.": api.ErrStep, "[0]": api.ErrStep, "c[01]": api.ErrStep, "c[1": api.ErrStep,
	} {
		parseRefuses(t, s, "p.M", p, e)
	}
}

func TestExamplesOfGet(t *testing.T) { // P1306: the second one
	s, m := smallSchema(), example()
	gets(t, s, "p.M", m, "g.a", num(7))
	for _, p := range []string{"g.b", "c[2]", "e"} {
		lacks(t, s, "p.M", m, p)
	}
}

func TestExamplesOfSet(t *testing.T) { // P1307: the third one
	s, m := smallSchema(), example()
	a, c, d, g := m.Fields[0], m.Fields[1], m.Fields[2], m.Fields[3]
	sets(t, s, "p.M", m, "g.g.a", num(1), msg(a, c, d, at(7, msg(at(1, num(7)), at(7, one(1, num(1)))))))
	sets(t, s, "p.M", m, "f", num(0), msg(a, c, d, at(6, num(0))))
	sets(t, s, "p.M", m, "a", num(0), msg(c, d, g))
	sets(t, s, "p.M", m, "c[2]", num(9), msg(a, at(3, list(num(1), num(-1), num(9))), d, g))
	setRefuses(t, s, "p.M", m, "c[3]", num(9), api.ErrIndex)
	sets(t, s, "p.M", m, `d["j"].a`, num(2), msg(a, c, at(4, dict(kv("j", one(1, num(2))), kv("k", one(2, text("x"))))), g))
	sets(t, s, "p.M", m, "c", list(), msg(a, d, g))
	setRefuses(t, s, "p.M", m, "b", num(1), api.ErrType)
}

func TestExamplesOfClear(t *testing.T) { // P1308: the fourth one
	s, m := smallSchema(), example()
	a, c, d, g := m.Fields[0], m.Fields[1], m.Fields[2], m.Fields[3]
	clears(t, s, "p.M", m, "c[0]", msg(a, at(3, list(num(-1))), d, g))
	clears(t, s, "p.M", m, `d["k"]`, msg(a, c, g))
	clearRefuses(t, s, "p.M", m, "b", api.ErrAbsent)
}

func TestExamplesOfMasks(t *testing.T) { // P1309 to P1311: the fifth one
	s, m := smallSchema(), example()
	empty := at(4, dict(kv("k", msg())))
	keeps(t, s, "p.M", m, msg(at(1, num(5)), empty), "a", "d.a")
	strips(t, s, "p.M", m, msg(m.Fields[0], m.Fields[1], empty, m.Fields[3]), "d.b")
	maskRefuses(t, s, "p.M", m, api.ErrInto, "c.a")
	maskRefuses(t, s, "p.M", m, api.ErrMask, "c[0]")
}

func TestExamplesOfLeaves(t *testing.T) { // P1313: the sixth one
	tells(t, smallSchema(), "p.M", example(), "a", "c[0]", "c[1]", `d["k"].b`, "g.a")
	tells(t, smallSchema(), "p.M", msg(), "")
}
