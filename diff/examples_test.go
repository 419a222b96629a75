package diff_test

import (
	"testing"

	"sigil/api"
)

func TestExamples(t *testing.T) { // the chapter's examples
	s := smallSchema()
	turns(t, s, "p.M", msg(at(1, num(5)), at(3, nums(1, 2, 3)), at(6, num(1))), msg(at(3, nums(1, 9, 3)), at(7, msg())),
		drop("a"), drop("f"), splice("c", 1, 1, num(9)), set("g", msg()))
	turns(t, s, "p.M", one(4, dict(kv("j", msg()), kv("k", one(1, num(1))))), one(4, dict(kv("k", one(1, num(2))), kv("l", msg()))),
		drop(`d["j"]`), set(`d["k"].a`, num(2)), set(`d["l"]`, msg()))
	refuses(t, s, "p.M", msg(), api.ErrBase, drop("b"))
	refuses(t, s, "p.M", one(3, nums(1, -1)), api.ErrBase, splice("c", 3, 0))
	refuses(t, s, "p.M", msg(), api.ErrBase, splice("a", 0, 0))
	refuses(t, s, "p.M", msg(), api.ErrNoField, set("z", num(0)))
	refuses(t, s, "p.M", msg(), api.ErrEdit, api.Edit{Kind: 9})
	turns(t, s, "p.M", one(3, nums(1, 1, 1)), one(3, nums(1, 1)), splice("c", 2, 1))
	turns(t, s, "p.M", one(3, nums(1)), one(3, nums(1, 1, 1)), splice("c", 1, 0, num(1), num(1)))
	first := api.Change{Kind: api.CType, Type: "M", Number: 1, Old: "int32", New: "int64"}
	changes(t, proto(t, "message M { int32 a = 1; }"), proto(t, "message M { repeated int64 b = 1; reserved 2; }"),
		first, api.Change{Kind: api.CCard, Type: "M", Number: 1, Old: "single", New: "repeated"},
		api.Change{Kind: api.CName, Type: "M", Number: 1, Old: "a", New: "b"}, api.Change{Kind: api.CReserved, Type: "M", New: "2"})
	says(t, first, "M 1: type int32 to int64")
	says(t, api.Change{}, "no change")
}

func TestReadme(t *testing.T) { // the README's example
	s := proto(t, "message M { int32 a = 1; repeated sint32 c = 3; map<string, M> d = 4; }")
	a := msg(at(1, num(5)), at(3, nums(1, 2, 3)), at(4, dict(kv("k", msg()))))
	b := msg(at(3, nums(1, 9, 9, 3)), at(4, dict(kv("k", one(1, num(7))))))
	l := []api.Edit{drop("a"), splice("c", 1, 1, num(9), num(9)), set(`d["k"].a`, num(7))}
	turns(t, s, "M", a, b, l...)
	refuses(t, s, "M", b, api.ErrBase, l...)
	now := proto(t, "message M { int64 a = 1; repeated sint32 list = 3; reserved 4 to 9; } enum E { Z = 0; }")
	want := []api.Change{added("E", 0, "enum"), from(api.CType, "M", 1, "int32", "int64"), from(api.CName, "M", 3, "c", "list"), gone("M", 4, "map<string, .M> d"), from(api.CReserved, "M", 0, "", "4 to 9")}
	changes(t, s, now, want...)
	for i, words := range []string{"E 0: added enum", "M 1: type int32 to int64", "M 3: name c to list", "M 4: gone map<string, .M> d", "M: reserved  to 4 to 9"} {
		says(t, want[i], words)
	}
}
