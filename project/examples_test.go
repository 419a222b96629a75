package project_test

import (
	"strings"
	"testing"

	"sigil/api"
)

// The chapter's two schemas.
const (
	oldExample = "message M { int32 a = 1; optional int32 b = 2; string c = 3; map<string, M> d = 4; oneof o { bool e = 5; M f = 6; } }"
	newExample = "message M { int64 a = 1; int32 b = 2; reserved 3; map<string, M> d = 4; repeated int32 e = 5; M f = 6; }"
)

func TestExamples(t *testing.T) { // the chapter's examples
	w := of(t, oldExample, newExample)
	w.becomes(t, msg(at(1, num(-1)), at(2, num(7)), at(3, text("x"))), msg(at(1, num(-1)), at(2, num(7))), "3")
	w.becomes(t, one(2, num(0)), msg(), "2")
	w.becomes(t, one(5, num(0)), one(5, list(num(0))))
	d := at(4, dict(pair(text("k"), one(3, text("x")))))
	refuses(t, w.plan(t), msg(d, at(6, msg(at(2, num(0)), at(3, text(""))))), api.ErrNormal)
	w.becomes(t, msg(d, at(6, msg(at(2, num(0)), at(3, text("y"))))), msg(at(4, dict(pair(text("k"), msg()))), at(6, msg())), "4.0.2.3", "6.2", "6.3")
	if w.plan(t).Whole() {
		t.Error("P1504: the old one to the new one is Whole")
	}
	if !of(t, newExample, newExample).plan(t).Whole() {
		t.Error("P1504: the new one to itself is not Whole")
	}
	of(t, oldExample, strings.Replace(newExample, "reserved 3;", "", 1)).fails(t, api.ErrCompat)
}

func TestExampleOfTheWhole(t *testing.T) { // the document's example 8
	const small = `package p; message M { int32 a = 1; string b = 2; repeated sint32 c = 3; map<string, M> d = 4; optional bool e = 5; oneof o { fixed32 f = 6; M g = 7; } }`
	w := between(t, small, "p.M", `package p; message M { int64 a = 1; bytes b = 2; repeated sint32 c = 3; map<string, M> d = 4; reserved 5; oneof o { fixed32 f = 6; M g = 7; } }`, "p.M")
	w.becomes(t, msg(at(1, num(-1)), at(5, num(1))), one(1, num(-1)), "5")
}
