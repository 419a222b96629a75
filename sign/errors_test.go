package sign_test

import (
	"strings"
	"testing"

	"sigil/api"
	"sigil/bind"
	"sigil/sign"
)

// argument is one that may be handed in, with the error that it has by itself, and where in the order of looks that is found. Without an error it is right.
type argument[T any] struct {
	what T
	e    api.Errno
	look int
}

// looked is what is said of an argument, without what it is.
func (a argument[T]) looked() argument[int] { return argument[int]{e: a.e, look: a.look} }

// first tells the error of some arguments that is looked for first.
func first(l ...argument[int]) api.Errno {
	found := argument[int]{}
	for _, a := range l {
		if a.e != api.OK && (found.e == api.OK || a.look < found.look) {
			found = a
		}
	}
	return found.e
}

// The looks of Commit and Open, in their order.
const (
	atName = iota + 1
	atTree
	atLong
	atContent
	atPath
	atNothing
	atPrint
	atSize
)

func names() []argument[string] {
	return []argument[string]{
		{what: "p.M"},
		{"p.N", api.ErrName, atName},
		{"", api.ErrName, atName},
		{strings.Repeat("p", api.MaxName), api.ErrName, atName},
		{strings.Repeat("p", api.MaxName+1), api.ErrLong, atName},
	}
}

// escaped is a key that is written longer than a path may be, though it can be read in one.
var escaped = strings.Repeat("\x7f", 300)

// full is a right tree of the small schema, in which that key stands.
func full(l ...api.Entry) api.Value {
	return msg(append([]api.Entry{at(1, num(5)), at(3, list(num(1), num(-1))), at(4, dict(kv("k", msg()), kv(escaped, one(1, num(1)))))}, l...)...)
}

// crowd is a normal message of the small schema on which more values hang than may be: most of them share their memory.
func crowd() api.Value {
	pairs := make([]api.Value, 2048)
	in := one(3, many(2047))
	for i := range pairs {
		pairs[i] = kv(string(rune(1000+i)), in)
	}
	return one(4, dict(pairs...))
}

func trees() []argument[api.Value] {
	over := many(api.MaxLeaves + 1)
	return []argument[api.Value]{
		{what: full()},
		{crowd(), api.ErrLong, atTree},
		{nested(200, num(0)), api.ErrDepth, atTree},
		{full(at(9, nested(199, num(0)))), api.ErrDepth, atTree},
		{nested(199, num(0)), api.ErrType, atContent},
		{num(1), api.ErrType, atContent},
		{full(at(5, num(2))), api.ErrType, atContent},
		{full(at(1, num(0)), at(7, chain(64, 7, msg())), at(9, num(1))), api.ErrType, atContent},
		{full(at(1, num(2))), api.ErrNormal, atContent},
		{full(at(7, msg(at(2, big(api.MaxMessage+1)), at(3, list()), at(7, chain(64, 7, msg()))))), api.ErrNormal, atContent},
		{full(at(7, chain(63, 7, one(3, over)))), api.ErrDepth, atContent},
		{full(at(7, one(3, over))), api.ErrSize, atSize},
		{full(at(7, one(2, big(api.MaxMessage+1)))), api.ErrSize, atSize},
		{full(at(7, one(4, dict(pair(big(api.MaxMessage+1), msg()))))), api.ErrSize, atSize},
	}
}

func paths() []argument[string] {
	return []argument[string]{
		{what: ""},
		{what: "a"},
		{what: "c[1]"},
		{what: `d["k"]`},
		{strings.Repeat(".", api.MaxPath+1), api.ErrLong, atLong},
		{strings.Repeat("g.", 511) + "gg", api.ErrLong, atLong},
		{strings.Repeat(".", api.MaxPath), api.ErrStep, atPath},
		{"z.", api.ErrStep, atPath},
		{"a.a", api.ErrInto, atPath},
		{"c[0][0]", api.ErrInto, atPath},
		{"g.z", api.ErrNoField, atPath},
		{"c[-1]", api.ErrIndex, atPath},
		{"c[4194304]", api.ErrIndex, atPath},
		{"d[0]", api.ErrKeyText, atPath},
		{"b", api.ErrNothing, atNothing},
		{"c[2]", api.ErrNothing, atNothing},
		{"c[4194303]", api.ErrNothing, atNothing},
		{`d["j"].a`, api.ErrNothing, atNothing},
		{strings.Repeat("g.", 511) + "g", api.ErrNothing, atNothing},
		{`d["` + escaped + `x"]`, api.ErrNothing, atNothing},
		{`d["` + escaped + `"].b`, api.ErrNothing, atNothing},
		{`d["` + escaped + `"]`, api.ErrLong, atPrint},
		{`d["` + escaped + `"].a`, api.ErrLong, atPrint},
	}
}

func TestOrderOfLooks(t *testing.T) { // P1606, P1607, P5: all that is wrong with each argument, with all that is wrong with the others
	s := smallSchema()
	for _, m := range trees() {
		for i, name := range names() {
			if i > 1 && m.e == api.ErrLong {
				continue // it takes long to count
			}
			if e := first(name.looked(), m.looked()); e != api.OK {
				commitRefuses(t, s, name.what, m.what, e)
			} else {
				commits(t, s, name.what, m.what)
			}
			for k, p := range paths() {
				if k > 1 && m.e == api.ErrLong && p.look != atLong {
					continue
				}
				if e := first(name.looked(), m.looked(), p.looked()); e != api.OK {
					openRefuses(t, s, name.what, m.what, p.what, e)
				} else {
					opens(t, s, name.what, m.what, p.what)
				}
			}
		}
	}
}

func TestDepths(t *testing.T) { // P6, P7: 64 and 65 messages, 200 and 201 values in one another
	s := smallSchema()
	commits(t, s, "p.M", chain(63, 7, one(1, num(1))))
	opens(t, s, "p.M", chain(63, 7, one(1, num(1))), strings.Repeat("g.", 63)+"a")
	commitRefuses(t, s, "p.M", chain(64, 7, msg()), api.ErrDepth)
	openRefuses(t, s, "p.M", chain(64, 7, msg()), "g", api.ErrDepth)
	commitRefuses(t, s, "p.M", chain(64, 7, one(1, num(0))), api.ErrNormal)
	commitRefuses(t, s, "p.M", chain(64, 7, one(9, num(0))), api.ErrType)
	commitRefuses(t, s, "p.M", chain(198, 7, one(9, num(0))), api.ErrType)
	commitRefuses(t, s, "p.M", chain(199, 7, one(9, num(0))), api.ErrDepth)
	openRefuses(t, s, "p.M", chain(199, 7, one(9, num(0))), "z", api.ErrDepth)
	// As deep as maps of messages can be, which a tree of 64 messages may be.
	m, p := one(4, dict(kv("", msg()))), `d[""]`
	for range 62 {
		m, p = one(4, dict(kv("", m))), p+`.d[""]`
	}
	commits(t, s, "p.M", m)
	opens(t, s, "p.M", m, p)
	commitRefuses(t, s, "p.M", one(4, dict(kv("", m))), api.ErrDepth)
}

// The looks of Verify, in their order.
const (
	verifyName = iota + 1
	verifyRoot
	verifyLong
	verifyValue
	verifyRungs
	verifyPath
	verifyCount
	verifyType
	verifyNormal
	verifyDepth
	verifySize
	verifyRung
	verifyForged
)

func TestOrderOfVerify(t *testing.T) { // P1608, P5: all that is wrong with each part of what Verify is handed, with all that is wrong with the others
	s := smallSchema()
	m := msg(at(1, num(5)), at(3, list(num(1), num(-1))), at(7, one(1, num(7))))
	good, _ := sign.Open(s, "p.M", m, "g")
	right, _ := sign.Commit(s, "p.M", m)
	other, _ := sign.Commit(s, "p.M", msg())
	with := func(change func(r *api.Rung)) []api.Rung {
		p := copied(good)
		change(&p.Rungs[0])
		return p.Rungs
	}
	roots := []argument[[]byte]{{what: right}, {other, api.ErrForged, verifyForged}, {right[:31], api.ErrProof, verifyRoot}, {nil, api.ErrProof, verifyRoot}, {append(right[:32:32], 0), api.ErrProof, verifyRoot}}
	ways := []argument[string]{{what: "g"}}
	for _, p := range paths() {
		if p.look == atLong || p.look == atPath {
			p.look += verifyLong - atLong
			if p.e != api.ErrLong {
				p.look = verifyPath
			}
			ways = append(ways, p)
		}
	}
	over := many(api.MaxLeaves + 1)
	values := []argument[api.Value]{
		{what: one(1, num(7))},
		{one(1, num(8)), api.ErrForged, verifyForged},
		{nested(200, num(0)), api.ErrDepth, verifyValue},
		{nested(199, num(0)), api.ErrType, verifyType},
		{chain(199, 7, one(1, num(0))), api.ErrDepth, verifyValue},
		{msg(at(1, num(0)), at(3, over), at(7, chain(64, 7, msg())), at(9, num(0))), api.ErrType, verifyType},
		{msg(at(1, num(0)), at(3, over), at(7, chain(64, 7, msg()))), api.ErrNormal, verifyNormal},
		{msg(at(3, over), at(7, chain(62, 7, msg()))), api.ErrDepth, verifyDepth},
		{msg(at(3, over), at(7, chain(61, 7, msg()))), api.ErrSize, verifySize},
		{one(2, big(api.MaxMessage+1)), api.ErrSize, verifySize},
	}
	rungs := []argument[[]api.Rung]{
		{what: good.Rungs},
		{make([]api.Rung, api.MaxPath+1), api.ErrLong, verifyRungs},
		{make([]api.Rung, api.MaxPath), api.ErrProof, verifyCount},
		{nil, api.ErrProof, verifyCount},
		{append(good.Rungs[:1:1], good.Rungs...), api.ErrProof, verifyCount},
		{with(func(r *api.Rung) { r.At = 3 }), api.ErrProof, verifyRung},
		{with(func(r *api.Rung) { r.Beside = nil }), api.ErrProof, verifyRung},
		{with(func(r *api.Rung) { r.Beside[0][31]++ }), api.ErrForged, verifyForged},
	}
	for _, name := range names() {
		for _, root := range roots {
			for _, p := range ways {
				for _, v := range values {
					for _, r := range rungs {
						want := first(name.looked(), root.looked(), p.looked(), v.looked(), r.looked())
						verifies(t, s, name.what, root.what, api.Proof{Path: p.what, Value: v.what, Rungs: r.what}, want)
					}
				}
			}
		}
	}
	// Too many values, among some others.
	large := crowd()
	for _, name := range names()[:2] {
		for _, root := range roots[:3] {
			for _, p := range ways[:3] {
				for _, r := range rungs[:2] {
					want := first(name.looked(), root.looked(), p.looked(), argument[int]{e: api.ErrLong, look: verifyValue}, r.looked())
					verifies(t, s, name.what, root.what, api.Proof{Path: p.what, Value: large, Rungs: r.what}, want)
				}
			}
		}
	}
}

// errorsOf are the errors of all calls that are handed a tree.
func errorsOf(s *bind.Schema, name string, m api.Value, p string) [4]api.Errno {
	var e [4]api.Errno
	_, e[0] = sign.Preimage(s, name, m)
	_, e[1] = sign.Message(s, name, m)
	_, e[2] = sign.Commit(s, name, m)
	_, e[3] = sign.Open(s, name, m, p)
	return e
}

func TestBrokenTrees(t *testing.T) { // P1603, P1606, P1607: made trees, many of which are wrong
	met := map[api.Errno]int{}
	for seed := range int64(1500) {
		m := newMaker(seed)
		s := wideSchema()
		name := pick(m, s.Messages()...)
		v := m.normal(t, s, name)
		for range m.Intn(4) {
			v = m.broken(v)
		}
		lone := secondVerify(s, name, make([]byte, 32), api.Proof{Value: v})
		if lone == api.ErrForged {
			lone = api.OK
		}
		met[lone]++
		if got := errorsOf(s, name, v, ""); got != [4]api.Errno{lone, lone, lone, lone} {
			t.Fatalf("seed %d: of %s: %v, want %v", seed, short(v), got, lone)
		}
	}
	for _, e := range []api.Errno{api.OK, api.ErrType, api.ErrNormal} {
		if met[e] < 50 {
			t.Errorf("%d trees are %v: too few", met[e], e)
		}
	}
}
