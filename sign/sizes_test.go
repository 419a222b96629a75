package sign_test

import (
	"bytes"
	"testing"

	"sigil/api"
	"sigil/bind"
	"sigil/sign"
)

// sized looks at Commit, Open and Verify of a tree in which something is as large as may be: at "" and at a path.
func sized(t *testing.T, s *bind.Schema, name string, m api.Value, p string) {
	t.Helper()
	root := commits(t, s, name, m)
	for _, at := range []string{"", p} {
		proof, e := sign.Open(s, name, m, at)
		if e != api.OK {
			t.Errorf("P1607: Open(%s, %q): %v", short(m), at, e)
		}
		verifies(t, s, name, root, proof, api.OK)
	}
}

// oversized looks at them of a tree in which something is too large: at "" and at a path.
func oversized(t *testing.T, s *bind.Schema, name string, m api.Value, p string) {
	t.Helper()
	commitRefuses(t, s, name, m, api.ErrSize)
	openRefuses(t, s, name, m, "", api.ErrSize)
	openRefuses(t, s, name, m, p, api.ErrSize)
	verifies(t, s, name, make([]byte, 32), api.Proof{Value: m}, api.ErrSize)
}

func TestMostLeaves(t *testing.T) { // P1606 to P1608: lists and maps of MaxLeaves values and of one more, wherever they stand
	s := smallSchema()
	const most = api.MaxLeaves
	sized(t, s, "p.M", one(3, many(most)), "c[65535]")
	sized(t, s, "p.M", one(4, manyPairs(most, msg())), `d["00065535"]`)
	sized(t, s, "p.M", one(4, dict(kv("k", one(7, one(3, many(most)))))), `d["k"].g.c[0]`)
	for p, over := range map[string]api.Entry{"c": at(3, many(most+1)), "d": at(4, manyPairs(most+1, msg()))} {
		oversized(t, s, "p.M", msg(over), p)
		oversized(t, s, "p.M", one(4, dict(kv("k", msg(over)))), `d["k"]`)
		oversized(t, s, "p.M", msg(at(1, num(1)), at(7, one(7, msg(over)))), "a") // what stands there is small
	}
	lists := load(t, "message M { repeated M m = 1; repeated bytes b = 2; map<fixed32, string> c = 3; }")
	l := list()
	for range most {
		l.List = append(l.List, msg())
	}
	sized(t, lists, "M", one(1, l), "m[65535]")
	l.List = append(l.List, msg())
	oversized(t, lists, "M", one(1, l), "m")
	oversized(t, lists, "M", one(1, list(msg(), one(1, l))), "m[0]")
}

func TestMostBytes(t *testing.T) { // P1606 to P1608: texts of MaxMessage bytes and of one more, wherever they stand, as a map's key too
	s := load(t, "message M { string a = 1; bytes b = 2; repeated string c = 3; map<string, bytes> d = 4; M m = 5; oneof o { bytes e = 6; } }")
	for n, look := range map[int]func(*testing.T, *bind.Schema, string, api.Value, string){api.MaxMessage: sized, api.MaxMessage + 1: oversized} {
		look(t, s, "M", one(1, big(n)), "a")
		look(t, s, "M", one(2, big(n)), "b")
		look(t, s, "M", one(3, list(text(""), big(n))), "c[1]")
		look(t, s, "M", one(4, dict(kv("k", big(n)))), `d["k"]`)
		look(t, s, "M", one(4, dict(kv("k", text("")), pair(big(n), text("")))), `d["k"]`)
		look(t, s, "M", one(5, one(5, one(6, big(n)))), "m.m.e")
		look(t, s, "M", msg(at(2, text("x")), at(5, one(4, dict(pair(big(n), text("")))))), "b")
	}
}

func TestLargerThanMessages(t *testing.T) { // P1606: a tree may be larger than a message's bytes: a commitment asks for no size of it
	s := load(t, "message M { repeated bytes b = 1; repeated sint32 c = 2; M m = 3; }")
	m := msg(at(1, list(big(api.MaxMessage), big(api.MaxMessage))), at(2, many(api.MaxLeaves)))
	sized(t, s, "M", m, "b[1]")
	messageRefuses(t, s, "M", m, api.ErrSize)
	deep := msg(at(2, many(api.MaxLeaves)))
	for range 5 {
		deep = msg(at(2, many(api.MaxLeaves)), at(3, deep))
	}
	if d, e := sign.Commit(s, "M", deep); e != api.OK || !bytes.Equal(d, secondCommit(s, "M", deep)) {
		t.Errorf("P1606: many lists of MaxLeaves values: %x, %v", d, e)
	}
}

func TestMostValues(t *testing.T) { // P6: trees of MaxValues values, and of one more: these are told ahead of all else
	s := smallSchema()
	root := make([]byte, 32)
	l := many(api.MaxValues)
	for n, e := range map[int]api.Errno{api.MaxValues: api.ErrSize, api.MaxValues + 1: api.ErrLong} {
		m := one(3, list(l.List[:n-2]...)) // a message, a list, its numbers
		commitRefuses(t, s, "p.M", m, e)
		openRefuses(t, s, "p.M", m, "c[1]", e)
		messageRefuses(t, s, "p.M", m, e)
		verifies(t, s, "p.M", root, api.Proof{Value: m}, e)
		verifies(t, s, "p.M", root, api.Proof{Path: "g", Value: m, Rungs: make([]api.Rung, 1)}, e)
		v := list(l.List[:n-1]...) // of MaxValues by itself: what is around it does not count
		verifies(t, s, "p.M", root, api.Proof{Path: "c", Value: v, Rungs: make([]api.Rung, 1)}, e)
		verifies(t, s, "p.M", root, api.Proof{Path: `d["k"].g.c`, Value: v, Rungs: make([]api.Rung, 4)}, e)
	}
	v := list(l.List[:api.MaxValues-1]...)
	v.List[len(v.List)-1] = text("")
	verifies(t, s, "p.M", root, api.Proof{Path: "c", Value: v, Rungs: make([]api.Rung, 1)}, api.ErrType)
	v.List[len(v.List)-1] = num(1)
	verifies(t, s, "p.M", root, api.Proof{Path: "b", Value: v, Rungs: make([]api.Rung, 1)}, api.ErrType)
	verifies(t, s, "p.M", root, api.Proof{Path: "c", Value: v}, api.ErrProof)
}

func TestRings(t *testing.T) { // P1, P6: trees that lead back into themselves
	s := smallSchema()
	l := []api.Value{num(1), {}}
	l[1] = list(l...)
	l[1].List = l
	ring := one(3, l[1])
	messageRefuses(t, s, "p.M", ring, api.ErrLong)
	commitRefuses(t, s, "p.M", ring, api.ErrLong)
	openRefuses(t, s, "p.M", ring, "c", api.ErrLong)
	verifies(t, s, "p.M", make([]byte, 32), api.Proof{Path: "c", Value: l[1]}, api.ErrLong)
	verifies(t, s, "p.M", make([]byte, 32), api.Proof{Path: ".", Value: ring, Rungs: make([]api.Rung, api.MaxPath+1)}, api.ErrLong)
	verifies(t, s, "p.M", make([]byte, 31), api.Proof{Path: ".", Value: ring}, api.ErrProof)
}
