package sign_test

import (
	"fmt"
	"strings"
	"testing"

	"sigil/api"
	"sigil/path"
	"sigil/sign"
)

func TestOpenEverywhere(t *testing.T) { // P1607: the empty path, fields, values of lists, pairs of maps, messages
	s := smallSchema()
	m := example()
	for p, want := range map[string]struct {
		v     api.Value
		rungs [][2]int // At and Of
	}{
		"":         {m, nil},
		"a":        {num(5), [][2]int{{0, 5}}},
		"c":        {list(num(1), num(-1)), [][2]int{{1, 5}}},
		"c[0]":     {num(1), [][2]int{{1, 5}, {0, 2}}},
		"c[1]":     {num(-1), [][2]int{{1, 5}, {1, 2}}},
		"d":        {dict(kv("j", msg()), kv("k", one(2, text("x")))), [][2]int{{2, 5}}},
		`d["j"]`:   {msg(), [][2]int{{2, 5}, {0, 2}}},
		`d["k"]`:   {one(2, text("x")), [][2]int{{2, 5}, {1, 2}}},
		`d["k"].b`: {text("x"), [][2]int{{2, 5}, {1, 2}, {0, 1}}},
		"e":        {num(0), [][2]int{{3, 5}}},
		"g":        {one(1, num(7)), [][2]int{{4, 5}}},
		"g.a":      {num(7), [][2]int{{4, 5}, {0, 1}}},
	} {
		got := opens(t, s, "p.M", m, p)
		if got.Path != p || !same(got.Value, want.v) || len(got.Rungs) != len(want.rungs) {
			t.Errorf("P1607: Open(%q) = %s", p, some(got))
			continue
		}
		for i, r := range got.Rungs {
			if r.At != want.rungs[i][0] || r.Of != want.rungs[i][1] {
				t.Errorf("P1607: Open(%q): rung %d is %d of %d, want %v", p, i, r.At, r.Of, want.rungs[i])
			}
		}
	}
	for _, p := range []string{"b", "f", "c[2]", "c[4194303]", `d["i"]`, `d[""]`, `d["kk"]`, `d["j"].a`, `d["i"].d["j"].a`, "g.g", "g.c", "g.c[0]", "g.g.g.g.g"} {
		openRefuses(t, s, "p.M", m, p, api.ErrNothing)
	}
	for p, e := range map[string]api.Errno{"z": api.ErrNoField, "a.a": api.ErrInto, "a[0]": api.ErrInto, "c.a": api.ErrInto, "c[-1]": api.ErrIndex, "c[true]": api.ErrIndex, "c[4194304]": api.ErrIndex, "d[0]": api.ErrKeyText, `d["\xff"]`: api.ErrKeyText, ".": api.ErrStep, "a.": api.ErrStep, "a ": api.ErrStep, "c[01]": api.ErrStep} {
		openRefuses(t, s, "p.M", m, p, e)
	}
	opens(t, s, "p.M", msg(), "")
	openRefuses(t, s, "p.M", msg(), "a", api.ErrNothing)
}

func TestOpenKeys(t *testing.T) { // P1607: pairs of maps by every type of key, the only one and one of all
	s := wideSchema()
	for _, k := range keyTypes {
		m := msg()
		all := dict()
		for i, key := range sorted(k) {
			all.List = append(all.List, pair(key, num(i+1)))
			alone := one(keyed+k, dict(pair(key, num(3))))
			p, e := path.Print(s, "w.W", []api.Step{{Kind: api.SField, Number: keyed + k}, {Kind: api.SKey, Key: key}})
			if e != api.OK {
				t.Fatal(e)
			}
			opens(t, s, "w.W", alone, p)
		}
		m = one(keyed+k, all)
		for _, p := range pathsOf(s, "w.W", m) {
			opens(t, s, "w.W", m, p)
		}
	}
	opens(t, s, "w.W", one(keyed+api.TUint64, dict(pair(num(1), num(2)), pair(num(-1), num(3)))), "k6[18446744073709551615]")
	opens(t, s, "w.W", one(keyed+api.TBool, dict(pair(num(0), num(2)), pair(num(1), num(3)))), "k_13[true]")
	opens(t, s, "w.W", one(keyed+api.TSint64, dict(pair(num(-5), num(2)))), "k_8[-5]")
}

// sorted are the samples of a type of keys in the order of keys.
func sorted(k int) []api.Value {
	d := dict()
	for _, v := range samples(k) {
		d.List = append(d.List, pair(v, num(1)))
	}
	m := newMaker(1)
	v := m.made(one(keyed+k, d))
	var l []api.Value
	for _, p := range v.Fields[0].Value.List {
		l = append(l, p.List[0])
	}
	return l
}

func TestOpenAsWritten(t *testing.T) { // P1607: the path is told as Print writes it, however it was written
	s := load(t, "message M { M x_y = 1; map<string, M> a_b = 2; repeated bool c__d = 3; int32 e = 4; }")
	m := one(1, one(2, dict(kv("a\"\né", msg(at(3, list(num(0), num(1))), at(4, num(1)))))))
	for _, p := range []string{`xY.aB["a\"\né"].cD[1]`, `x_y.a_b["a\x22\012\303\251"].cD[1]`, `x_y.aB["a\"\n\xc3\xa9"].c__d[1]`, `x_y.a_b["a\"\né"].c__d[1]`} {
		if got := opens(t, s, "M", m, p); got.Path != `x_y.a_b["a\"\né"].c__d[1]` || !same(got.Value, num(1)) {
			t.Errorf("P1607: Open(%q): Path %q, %s", p, got.Path, short(got.Value))
		}
	}
}

func TestLongPaths(t *testing.T) { // P1607: paths of MaxPath bytes and of one more; paths whose print is longer
	s := smallSchema()
	inside := func(n int) (api.Value, string) { // of so many bytes
		k := strings.Repeat("k", n-len(`d[""].a`))
		return one(4, dict(kv(k, one(1, num(1))))), `d["` + k + `"].a`
	}
	m, p := inside(api.MaxPath)
	if got := opens(t, s, "p.M", m, p); got.Path != p {
		t.Errorf("P1607: a path of MaxPath bytes is told as %.40q", got.Path)
	}
	openRefuses(t, s, "p.M", m, p+"a", api.ErrLong)
	m, p = inside(api.MaxPath + 1)
	openRefuses(t, s, "p.M", m, p, api.ErrLong)
	openRefuses(t, s, "p.M", m, p[:api.MaxPath], api.ErrStep)

	// A byte 127 is written as four.
	for n, e := range map[int]api.Errno{254: api.OK, 255: api.ErrLong, 1018: api.ErrLong} {
		k := strings.Repeat("\x7f", n)
		m := one(4, dict(kv("a", msg()), kv(k, msg())))
		if e != api.OK {
			openRefuses(t, s, "p.M", m, `d["`+k+`"]`, e)
		} else {
			opens(t, s, "p.M", m, `d["`+k+`"]`)
		}
		openRefuses(t, s, "p.M", m, `d["`+k[1:]+`"]`, api.ErrNothing)
	}
	// A field's name may be longer than its JSON name.
	long := strings.Repeat("_", 200) + "m"
	s = load(t, fmt.Sprintf("message M { M %s = 1; int32 a = 2; }", long))
	for n, e := range map[int]api.Errno{5: api.OK, 6: api.ErrLong} {
		m, p := chain(n, 1, one(2, num(7))), strings.Repeat("M.", n)+"a"
		if e != api.OK {
			openRefuses(t, s, "M", m, p, e)
			openRefuses(t, s, "M", m, p[:len(p)-2]+".M", api.ErrNothing)
		} else if got := opens(t, s, "M", m, p); got.Path != strings.Repeat(long+".", n)+"a" {
			t.Errorf("P1607: %.80q is told as %.80q", p, got.Path)
		}
	}
}

func TestMadeProofs(t *testing.T) { // P1607, P1609: what stands in made trees, against the second reading
	proofs := 0
	for i, c := range mades(t, 600) {
		paths := shuffled(newMaker(int64(i)), pathsOf(c.s, c.name, c.m))
		for _, p := range paths[:min(12, len(paths))] {
			opens(t, c.s, c.name, c.m, p)
			proofs++
		}
		if t.Failed() {
			t.Fatalf("%q %s", c.name, short(c.m))
		}
	}
	if proofs < 3000 {
		t.Errorf("%d proofs: too few", proofs)
	}
}

func TestNothingThere(t *testing.T) { // P1607: paths of one made tree in another: a proof just where something stands
	nothing, there := 0, 0
	for seed := range int64(300) {
		m := newMaker(seed)
		s := wideSchema()
		name := pick(m, s.Messages()...)
		v, w := m.normal(t, s, name), m.normal(t, s, name)
		paths := shuffled(m, pathsOf(s, name, v))
		for _, p := range paths[:min(20, len(paths))] {
			_, ok, e := path.Get(s, name, w, p)
			if ok && e == api.OK {
				opens(t, s, name, w, p)
				there++
				continue
			}
			nothing++
			openRefuses(t, s, name, w, p, api.ErrNothing)
		}
	}
	if nothing < 1000 || there < 300 {
		t.Errorf("nothing at %d paths, something at %d: too few", nothing, there)
	}
}

func TestManyRungs(t *testing.T) { // P1607: the rungs of values of long lists, at every place
	s := smallSchema()
	for _, n := range []int{1, 2, 3, 4, 5, 7, 8, 9, 31, 33, 64} {
		l := list()
		for i := range n {
			l.List = append(l.List, num(i))
		}
		m := one(3, l)
		for i := range n {
			if got := opens(t, s, "p.M", m, fmt.Sprintf("c[%d]", i)); got.Rungs[1].At != i || got.Rungs[1].Of != n {
				t.Errorf("P1607: c[%d] of %d: %+v", i, n, got.Rungs[1])
			}
		}
	}
	if _, e := sign.Open(s, "p.M", one(3, many(3)), "c[3]"); e != api.ErrNothing {
		t.Errorf("P1607: %v", e)
	}
}
