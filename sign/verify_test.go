package sign_test

import (
	"math"
	"slices"
	"strings"
	"testing"

	"sigil/api"
	"sigil/sign"
)

// zeros are so many digests of zero bytes.
func zeros(n int) [][]byte {
	l := make([][]byte, n)
	for i := range l {
		l[i] = make([]byte, 32)
	}
	return l
}

// lone are rungs for a path of so many steps, each the only part of what is around it.
func lone(n int) []api.Rung {
	l := make([]api.Rung, n)
	for i := range l {
		l[i].Of = 1
	}
	return l
}

func TestRoots(t *testing.T) { // P1608: a root of other than 32 bytes, and other roots
	s := smallSchema()
	p := opens(t, s, "p.M", example(), "c[1]")
	root, _ := sign.Commit(s, "p.M", example())
	for n := range 70 {
		want := api.ErrProof
		if n == 32 {
			want = api.OK
		}
		verifies(t, s, "p.M", append(slices.Clone(root), make([]byte, 64)...)[:n], p, want)
	}
	for i := range 256 {
		other := slices.Clone(root)
		other[i/8] ^= 1 << (i % 8)
		verifies(t, s, "p.M", other, p, api.ErrForged)
	}
	other, _ := sign.Commit(s, "p.M", msg())
	verifies(t, s, "p.M", other, p, api.ErrForged)
	verifies(t, s, "p.M", make([]byte, 32), p, api.ErrForged)
}

func TestCountOfRungs(t *testing.T) { // P1608: fewer and more rungs than steps; more than MaxPath
	s := smallSchema()
	root, _ := sign.Commit(s, "p.M", example())
	for _, path := range []string{"", "a", "c[0]", `d["k"].b`} {
		p := opens(t, s, "p.M", example(), path)
		rung := api.Rung{Of: 1}
		for n := range 6 {
			if other := copied(p); n != len(p.Rungs) {
				other.Rungs = append(other.Rungs, rung, rung, rung, rung, rung)[:n]
				verifies(t, s, "p.M", root, other, api.ErrProof)
			}
		}
		p.Rungs = make([]api.Rung, api.MaxPath)
		verifies(t, s, "p.M", root, p, api.ErrProof)
		p.Rungs = make([]api.Rung, api.MaxPath+1)
		verifies(t, s, "p.M", root, p, api.ErrLong)
	}
}

func TestPathsOfProofs(t *testing.T) { // P1608: the path's errors, by its length too; a path may be written in any way
	s := smallSchema()
	root := make([]byte, 32)
	for p, e := range map[string]api.Errno{
		"z": api.ErrNoField, "a.a": api.ErrInto, "c[-1]": api.ErrIndex, "c[9999999]": api.ErrIndex, "c[4194304]": api.ErrIndex, "d[0]": api.ErrKeyText, ".": api.ErrStep,
		strings.Repeat("x", api.MaxPath+1): api.ErrLong, strings.Repeat(".", api.MaxPath): api.ErrStep, strings.Repeat("a.", 511) + "a": api.ErrInto,
	} {
		for _, n := range []int{0, 1, 2, 512, api.MaxPath} {
			verifies(t, s, "p.M", root, api.Proof{Path: p, Value: num(1), Rungs: lone(n)}, e)
		}
	}
	s = load(t, "message M { M x_y = 1; map<string, bool> a_b = 2; }")
	m := one(1, one(2, dict(kv("a\n", num(1)))))
	root, _ = sign.Commit(s, "M", m)
	p := opens(t, s, "M", m, `x_y.a_b["a\n"]`)
	for _, written := range []string{`xY.a_b["a\n"]`, `xY.aB["\x61\012"]`, `x_y.aB["a\n"]`} {
		p.Path = written
		verifies(t, s, "M", root, p, api.OK)
	}
	for _, other := range []string{`xY.a_b["a"]`, `xY.aB["a\r"]`, `x_y.aB["A\n"]`} {
		p.Path = other
		verifies(t, s, "M", root, p, api.ErrForged)
	}
	// A path that Print would write too long is read all the same.
	long := strings.Repeat("\x7f", 300)
	m = one(2, dict(kv(long, num(1))))
	root, _ = sign.Commit(s, "M", m)
	verifies(t, s, "M", root, api.Proof{Path: `aB["` + long + `"]`, Value: num(1), Rungs: lone(2)}, api.OK)
	verifies(t, s, "M", root, api.Proof{Path: `aB["` + long + `"]`, Value: num(0), Rungs: lone(2)}, api.ErrForged)
}

func TestValuesThatDoNotFit(t *testing.T) { // P1608: ErrType
	s := smallSchema()
	all := []api.Value{{}, num(1), num(-1), num(2), num(1 << 40), text(""), text("\xff"), msg(), one(9, num(1)), list(), list(num(1)), list(text("")), list(num(1), list()), dict(), dict(num(1)), dict(kv("k", msg())), dict(kv("k", num(1))), dict(pair(num(1), msg())), dict(pair(text("k"))), dict(kv("\xff", msg())), pair(text("k"), msg()), {Kind: 7}, {Kind: api.VNum, Num: 1, Text: "x"}, {Kind: api.VMessage, List: []api.Value{num(1)}}, {Kind: api.VText, Fields: []api.Entry{{}}}}
	fits := map[string][]int{ // the places of those that do
		"":       {7},
		"a":      {1, 2, 3},
		"b":      {5},
		"c":      {9, 10},
		"c[0]":   {1, 2, 3},
		"d":      {13, 15},
		`d["k"]`: {7},
		"e":      {1},
		"f":      {1, 3},
		"g":      {7},
		"g.e":    {1},
	}
	for p, places := range fits {
		for i, v := range all {
			rungs := lone(strings.Count(p, ".") + strings.Count(p, "[") + min(1, len(p)))
			got := sign.Verify(s, "p.M", make([]byte, 32), api.Proof{Path: p, Value: v, Rungs: rungs})
			if slices.Contains(places, i) == (got == api.ErrType) || got != api.ErrType && got != api.ErrForged && got != api.ErrNormal {
				t.Errorf("P1608: Verify at %q of %s: %v", p, short(v), got)
			}
		}
	}
}

func TestNumbersThatDoNotFit(t *testing.T) { // P1608: numbers at and beyond the bounds of every type, single, in a list, in a map
	s := wideSchema()
	bounds := func(typ int) (int, int) {
		switch typ {
		case api.TInt32, api.TSint32, api.TSfixed32, api.TEnum:
			return math.MinInt32, math.MaxInt32
		case api.TUint32, api.TFixed32, api.TFloat:
			return 0, math.MaxUint32
		case api.TBool:
			return 0, 1
		}
		return math.MinInt, math.MaxInt
	}
	for typ := api.TDouble; typ <= api.TEnum; typ++ {
		if typ == api.TString || typ == api.TBytes {
			continue
		}
		least, most := bounds(typ)
		for _, v := range []int{math.MinInt, math.MinInt32 - 1, math.MinInt32, -1, 0, 1, 2, math.MaxInt32, math.MaxInt32 + 1, math.MaxUint32, math.MaxUint32 + 1, math.MaxInt} {
			m := msg()
			if least <= v && v <= most {
				m = msg(at(optional+typ, num(v)), at(repeated+typ, list(num(v))), at(mapped+typ, dict(kv("", num(v)))))
			}
			root, _ := sign.Commit(s, "w.W", m)
			for _, p := range []string{"o_?", "r_?", "r_?[0]", "m_?", `m_?[""]`} {
				p = strings.Replace(p, "?", digits(typ), 1)
				if len(m.Fields) > 0 {
					proof, _ := sign.Open(s, "w.W", m, p)
					verifies(t, s, "w.W", root, proof, api.OK)
					continue
				}
				in := num(v)
				switch {
				case strings.HasSuffix(p, "]"):
				case p[0] == 'r':
					in = list(num(v))
				case p[0] == 'm':
					in = dict(kv("", num(v)))
				}
				verifies(t, s, "w.W", root, api.Proof{Path: p, Value: in, Rungs: lone(1 + strings.Count(p, "["))}, api.ErrType)
			}
		}
	}
}

// digits are the digits of a number below 100.
func digits(n int) string {
	if n < 10 {
		return string(rune('0' + n))
	}
	return digits(n/10) + digits(n%10)
}

func TestValuesThatAreNotNormal(t *testing.T) { // P1608: ErrNormal; zeros that may stand somewhere are none
	s := smallSchema()
	verify := func(p string, v api.Value, want api.Errno) {
		t.Helper()
		verifies(t, s, "p.M", make([]byte, 32), api.Proof{Path: p, Value: v, Rungs: lone(strings.Count(p, ".") + strings.Count(p, "[") + min(1, len(p)))}, want)
	}
	for _, p := range []string{"", "g", `d["k"]`, "g.g"} { // a message that is not normal
		verify(p, one(1, num(0)), api.ErrNormal)
		verify(p, one(2, text("")), api.ErrNormal)
		verify(p, one(3, list()), api.ErrNormal)
		verify(p, one(4, dict()), api.ErrNormal)
		verify(p, msg(at(2, text("x")), at(1, num(1))), api.ErrNormal)
		verify(p, msg(at(1, num(1)), at(1, num(1))), api.ErrNormal)
		verify(p, msg(at(6, num(1)), at(7, msg())), api.ErrNormal)
		verify(p, one(7, one(7, one(1, num(0)))), api.ErrNormal)
		verify(p, one(4, dict(kv("k", one(1, num(0))))), api.ErrNormal)
		verify(p, one(4, dict(kv("b", msg()), kv("a", msg()))), api.ErrNormal)
		verify(p, one(4, dict(kv("a", msg()), kv("a", msg()))), api.ErrNormal)
		verify(p, msg(), api.ErrForged)
		verify(p, msg(at(5, num(0)), at(6, num(0))), api.ErrForged)
	}
	for _, p := range []string{"", "g.", `d["k"].`, "g.g."} { // a field's value
		verify(p+"a", num(0), api.ErrNormal)
		verify(p+"b", text(""), api.ErrNormal)
		verify(p+"c", list(), api.ErrNormal)
		verify(p+"d", dict(), api.ErrNormal)
		verify(p+"d", dict(kv("b", msg()), kv("a", msg())), api.ErrNormal)
		verify(p+"d", dict(kv("a", msg()), kv("a", msg())), api.ErrNormal)
		verify(p+"d", dict(kv("a", msg()), kv("b", one(1, num(0)))), api.ErrNormal)
		verify(p+"d", dict(kv("b", one(9, num(0))), kv("a", msg())), api.ErrType)
		verify(p+"a", num(1), api.ErrForged)
		verify(p+"c", list(num(0)), api.ErrForged)
		verify(p+"c[0]", num(0), api.ErrForged)
		verify(p+"d", dict(kv("", msg())), api.ErrForged)
		verify(p+`d["k"]`, msg(), api.ErrForged)
		verify(p+"e", num(0), api.ErrForged)
		verify(p+"f", num(0), api.ErrForged)
		verify(p+"g", msg(), api.ErrForged)
	}
	// At an index that a list of none has not, too.
	wide := load(t, "message M { repeated M l = 1; int32 a = 2; repeated string b = 3; map<int32, int32> c = 4; }")
	for p, v := range map[string]api.Value{"l[7].a": num(0), "l[7].b": list(), "l[7].c": dict(), "l[7].l[4194303].a": num(0), "l[7]": one(2, num(0)), "l[7].l": list(msg(), one(3, list()))} {
		verifies(t, wide, "M", make([]byte, 32), api.Proof{Path: p, Value: v, Rungs: lone(strings.Count(p, ".") + strings.Count(p, "[") + 1)}, api.ErrNormal)
	}
	rungs := []api.Rung{{Of: 1}, {At: 7, Of: 8, Beside: zeros(3)}, {Of: 1}, {At: 1, Of: 2, Beside: zeros(1)}}
	for p, v := range map[string]api.Value{"l[7].b[1]": text(""), "l[7].l[1]": msg()} {
		verifies(t, wide, "M", make([]byte, 32), api.Proof{Path: p, Value: v, Rungs: rungs}, api.ErrForged)
	}
	verifies(t, wide, "M", make([]byte, 32), api.Proof{Path: "l[7].b[1]", Value: num(0), Rungs: rungs}, api.ErrType)
}

func TestZerosOfAllTypes(t *testing.T) { // P1608: of every type the zero of an implicit field is refused, and of no other
	s := wideSchema()
	for typ := api.TDouble; typ <= api.TMessage; typ++ {
		v := api.Value{Kind: api.VNum}
		switch typ {
		case api.TString, api.TBytes:
			v.Kind = api.VText
		case api.TMessage:
			v.Kind = api.VMessage
		}
		want := api.ErrNormal
		if typ == api.TMessage {
			want = api.ErrForged
		}
		for p, e := range map[string]api.Errno{"s_?": want, "o_?": api.ErrForged, "x_?": api.ErrForged, "r_?[0]": api.ErrForged, `m_?["k"]`: api.ErrForged} {
			p = strings.Replace(p, "?", digits(typ), 1)
			verifies(t, s, "w.W", make([]byte, 32), api.Proof{Path: p, Value: v, Rungs: lone(1 + strings.Count(p, "["))}, e)
		}
		verifies(t, s, "w.W", make([]byte, 32), api.Proof{Path: "r_" + digits(typ), Value: list(), Rungs: lone(1)}, api.ErrNormal)
		verifies(t, s, "w.W", make([]byte, 32), api.Proof{Path: "m_" + digits(typ), Value: dict(), Rungs: lone(1)}, api.ErrNormal)
	}
	minus := num(1 << 31) // a float's -0 has other bits
	verifies(t, s, "w.W", make([]byte, 32), api.Proof{Path: "s_2", Value: minus, Rungs: lone(1)}, api.ErrForged)
	verifies(t, s, "w.W", make([]byte, 32), api.Proof{Path: "s_1", Value: num(math.MinInt), Rungs: lone(1)}, api.ErrForged)
}

func TestDepthWithPath(t *testing.T) { // P1608: the messages in which the path stands and those in the value together
	s := smallSchema()
	verify := func(p string, v api.Value, want api.Errno) {
		t.Helper()
		verifies(t, s, "p.M", make([]byte, 32), api.Proof{Path: p, Value: v, Rungs: lone(strings.Count(p, ".") + strings.Count(p, "[") + min(1, len(p)))}, want)
	}
	to := func(n int, end string) string { return strings.Repeat("g.", n) + end }
	verify("", chain(63, 7, msg()), api.ErrForged)
	verify("", chain(64, 7, msg()), api.ErrDepth)
	for _, n := range []int{0, 1, 2, 30, 61, 62} {
		verify(to(n, "g"), chain(62-n, 7, msg()), api.ErrForged)
		verify(to(n, "g"), chain(63-n, 7, msg()), api.ErrDepth)
		verify(to(n, `d["k"]`), chain(62-n, 7, msg()), api.ErrForged)
		verify(to(n, `d["k"]`), chain(63-n, 7, msg()), api.ErrDepth)
		verify(to(n, "d"), dict(kv("j", msg()), kv("k", chain(62-n, 7, msg()))), api.ErrForged)
		verify(to(n, "d"), dict(kv("j", chain(63-n, 7, msg())), kv("k", msg())), api.ErrDepth)
	}
	for _, end := range []string{"a", "f", "c[0]"} {
		verify(to(63, end), num(1), api.ErrForged)
		verify(to(64, end), num(1), api.ErrDepth)
		verify(to(200, end), num(1), api.ErrDepth)
		verify(to(200, end), text("1"), api.ErrType)
	}
	verify(to(64, "a"), num(0), api.ErrNormal)
	verify(to(511, "a"), num(0), api.ErrNormal)
	verify(to(511, "a"), text(""), api.ErrType)
	verify(to(511, "g"), msg(), api.ErrDepth)
	verify(to(63, "c"), many(api.MaxLeaves+1), api.ErrSize)
	verify(to(64, "c"), many(api.MaxLeaves+1), api.ErrDepth)
	verify(strings.Repeat(`d[""].`, 63)+"e", num(0), api.ErrForged)
	verify(strings.Repeat(`d[""].`, 64)+"e", num(0), api.ErrDepth)
	// As deep as P6 lets pass: the type and what is normal go ahead.
	verify("g", chain(199, 7, msg()), api.ErrDepth)
	verify("g", chain(198, 7, one(1, num(0))), api.ErrNormal)
	verify("g", chain(198, 7, one(9, num(0))), api.ErrType)
	verify("g", chain(199, 7, one(9, num(0))), api.ErrDepth)
	verify("a", nested(199, num(1)), api.ErrType)
	verify("a", nested(200, num(1)), api.ErrDepth)
	verify("z", nested(199, num(1)), api.ErrNoField)
	verify("z", nested(200, num(1)), api.ErrDepth)
	verify(to(511, "a"), nested(199, num(1)), api.ErrType)
}

func TestSizeOfValues(t *testing.T) { // P1608: lists and maps of MaxLeaves values and of one more, texts of MaxMessage bytes and of one more, below a path
	s := load(t, "message M { string a = 1; repeated bytes b = 2; map<string, bytes> c = 3; M m = 4; repeated fixed32 l = 5; }")
	for n, want := range map[int]api.Errno{0: api.ErrForged, 1: api.ErrSize} {
		text, items := big(api.MaxMessage+n), api.MaxLeaves+n
		for p, v := range map[string]api.Value{
			"a":            text,
			"m.a":          text,
			"m.m":          one(1, text),
			"b":            list(text),
			"b[0]":         text,
			"c":            dict(kv("", text)),
			`c["k"]`:       text,
			"m.c":          dict(pair(text, big(0))),
			"l":            many(items),
			"m.l":          many(items),
			"m":            one(5, many(items)),
			"m.m.m.c":      manyPairs(items, big(1)),
			"m.m.m.m.m.m":  one(4, one(3, manyPairs(items, big(0)))),
			`m.m.c["key"]`: text,
		} {
			verifies(t, s, "M", make([]byte, 32), api.Proof{Path: p, Value: v, Rungs: lone(strings.Count(p, ".") + strings.Count(p, "[") + 1)}, want)
			wrong := lone(strings.Count(p, ".") + strings.Count(p, "[") + 1)
			wrong[0].Of = 0
			if want == api.ErrSize {
				verifies(t, s, "M", make([]byte, 32), api.Proof{Path: p, Value: v, Rungs: wrong}, api.ErrSize)
			} else {
				verifies(t, s, "M", make([]byte, 32), api.Proof{Path: p, Value: v, Rungs: wrong}, api.ErrProof)
			}
		}
	}
}

func TestRungsThatAreNone(t *testing.T) { // P1608: At and Of out of bounds, another At than the step's index, Beside of too few, too many, of other than 32 bytes
	s := smallSchema()
	l := list()
	for i := range 6 {
		l.List = append(l.List, num(i))
	}
	m := msg(at(1, num(5)), at(3, l), at(4, dict(kv("j", msg()), kv("k", one(2, text("x"))))))
	root, _ := sign.Commit(s, "p.M", m)
	for _, path := range []string{"a", "c", "c[0]", "c[4]", `d["k"]`, `d["k"].b`} {
		p := opens(t, s, "p.M", m, path)
		for i := range p.Rungs {
			wrong := func(want api.Errno, change func(r *api.Rung)) {
				t.Helper()
				other := copied(p)
				change(&other.Rungs[i])
				verifies(t, s, "p.M", root, other, want)
			}
			index := path[0] == 'c' && i == 1
			of, at := p.Rungs[i].Of, p.Rungs[i].At
			for _, n := range []int{0, -1, math.MinInt, api.MaxLeaves + 1, math.MaxInt, at, at - 1} {
				wrong(api.ErrProof, func(r *api.Rung) { r.Of = n })
			}
			for _, n := range []int{-1, of, of + 1, math.MinInt, math.MaxInt, api.MaxLeaves} {
				wrong(api.ErrProof, func(r *api.Rung) { r.At = n })
			}
			for n := range of {
				// Another place that has as long a way.
				if n != at && len(beside(make([][]byte, of), n)) == len(p.Rungs[i].Beside) {
					want := api.ErrForged
					if index {
						want = api.ErrProof
					}
					wrong(want, func(r *api.Rung) { r.At = n })
				}
			}
			wrong(api.ErrProof, func(r *api.Rung) { r.Beside = append(r.Beside, make([]byte, 32)) })
			wrong(api.ErrProof, func(r *api.Rung) { r.Beside = append(r.Beside, nil) })
			wrong(api.ErrProof, func(r *api.Rung) { r.Beside = append([][]byte{make([]byte, 32)}, r.Beside...) })
			wrong(api.ErrProof, func(r *api.Rung) { r.Beside = zeros(1000) })
			wrong(api.ErrProof, func(r *api.Rung) { *r = api.Rung{} })
			for k := range p.Rungs[i].Beside {
				wrong(api.ErrProof, func(r *api.Rung) { r.Beside = slices.Delete(r.Beside, k, k+1) })
				wrong(api.ErrProof, func(r *api.Rung) { r.Beside[k] = nil })
				wrong(api.ErrProof, func(r *api.Rung) { r.Beside[k] = r.Beside[k][:31] })
				wrong(api.ErrProof, func(r *api.Rung) { r.Beside[k] = append(r.Beside[k], 0) })
				wrong(api.ErrForged, func(r *api.Rung) { r.Beside[k][k] ^= 1 })
				wrong(api.ErrForged, func(r *api.Rung) { r.Beside[k] = make([]byte, 32) })
			}
		}
	}
	// A rung that is none goes ahead of ErrForged, whichever it is.
	p := opens(t, s, "p.M", m, `d["k"].b`)
	for i := range p.Rungs {
		other := copied(p)
		other.Value = text("forged")
		verifies(t, s, "p.M", root, other, api.ErrForged)
		other.Rungs[i].At = -1
		verifies(t, s, "p.M", root, other, api.ErrProof)
	}
	// As many leaves as may be: the way of the last of 65536 has 16 digests.
	other := api.Proof{Path: "c[65535]", Value: num(1), Rungs: []api.Rung{{Of: 1}, {At: 65535, Of: 65536, Beside: zeros(16)}}}
	verifies(t, s, "p.M", root, other, api.ErrForged)
	other.Rungs[1].Of = 65537
	verifies(t, s, "p.M", root, other, api.ErrProof)
	other.Rungs[1] = api.Rung{At: 65535, Of: 65536, Beside: zeros(15)}
	verifies(t, s, "p.M", root, other, api.ErrProof)
	other.Path = "c[65536]"
	other.Rungs[1] = api.Rung{At: 65536, Of: 65537, Beside: zeros(17)}
	verifies(t, s, "p.M", root, other, api.ErrProof)
}

func TestOtherThings(t *testing.T) { // P1608, P1609: another value, another path, another type, another schema
	const text1 = "message M { int32 a = 1; int32 b = 2; repeated int32 c = 3; repeated int32 d = 4; M m = 5; M n = 6; map<int32, int32> e = 7; } message N { int32 a = 1; int32 b = 2; repeated int32 c = 3; repeated int32 d = 4; M m = 5; M n = 6; map<int32, int32> e = 7; }"
	s := load(t, text1)
	m := msg(at(1, num(5)), at(2, num(5)), at(3, list(num(5), num(5), num(6))), at(4, list(num(5), num(5), num(6))), at(5, one(1, num(5))), at(6, one(1, num(5))), at(7, dict(pair(num(1), num(5)), pair(num(2), num(5)))))
	root, _ := sign.Commit(s, "M", m)
	paths := pathsOf(s, "M", m)
	for _, p := range paths {
		proof := opens(t, s, "M", m, p)
		for _, q := range paths {
			if q == p {
				continue
			}
			other := copied(proof)
			other.Path = q
			if e := sign.Verify(s, "M", root, other); e == api.OK {
				t.Errorf("P1609: the proof at %q is one at %q", p, q)
			}
			other.Value = opens(t, s, "M", m, q).Value
			if e := sign.Verify(s, "M", root, other); e == api.OK {
				t.Errorf("P1609: the proof at %q with the value at %q is one there", p, q)
			}
		}
		verifies(t, s, "N", root, proof, api.ErrForged)
		for _, text := range []string{strings.Replace(text1, "int32 b = 2", "int64 b = 2", 1), strings.Replace(text1, "int32 b", "int32 bb", 1), strings.Replace(text1, "int32 b = 2;", "", 1), strings.Replace(text1, "int32 b = 2;", "int32 b = 2; reserved 9;", 1)} {
			e := sign.Verify(load(t, text), "M", root, proof)
			if e == api.OK {
				t.Errorf("P1609: the proof at %q holds for another type", p)
			}
			if p == "a" && e != api.ErrForged {
				t.Errorf("P1608: the proof at %q for another type: %v", p, e)
			}
		}
		// Another schema in which the type is the same.
		verifies(t, load(t, text1+" message O { M m = 1; }"), "M", root, proof, api.OK)
	}
	for _, v := range []api.Value{num(4), num(6), num(-5), num(math.MinInt32), num(math.MaxInt32)} {
		p := opens(t, s, "M", m, "m.a")
		p.Value = v
		verifies(t, s, "M", root, p, api.ErrForged)
	}
}
