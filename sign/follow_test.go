package sign_test

import (
	"bytes"
	"slices"
	"testing"

	"sigil/api"
	"sigil/bind"
	"sigil/path"
	"sigil/sign"
)

// forged makes a proof wrong in something, perhaps; others are proofs of the same tree.
func (m *maker) forged(p api.Proof, others []api.Proof) api.Proof {
	p = copied(p)
	other := pick(m, others...)
	if len(p.Rungs) == 0 || m.often(3) {
		switch m.Intn(4) {
		case 0:
			p.Path = other.Path
		case 1:
			p.Value = other.Value
		case 2:
			p.Value = m.broken(p.Value)
		default:
			p.Rungs = copied(other).Rungs
		}
		return p
	}
	r := &p.Rungs[m.Intn(len(p.Rungs))]
	switch m.Intn(9) {
	case 0:
		r.At += pick(m, -1, 1, 2)
	case 1:
		r.Of += pick(m, -1, 1, 2)
	case 2:
		r.At, r.Of = r.At+1, r.Of+1
	case 3:
		if len(r.Beside) > 0 {
			pick(m, r.Beside...)[m.Intn(32)] ^= 1 << m.Intn(8)
		}
	case 4:
		r.Beside = shuffled(m, r.Beside)
	case 5:
		r.Beside = append(r.Beside, make([]byte, 32))
	case 6:
		r.Beside = r.Beside[:m.Intn(len(r.Beside)+1)]
	case 7:
		if in := copied(other).Rungs; len(in) > 0 {
			*r = pick(m, in...)
		}
	default:
		p.Rungs = slices.Delete(p.Rungs, 0, 1)
	}
	return p
}

// proofsOf are the proofs of a tree, not too many.
func (m *maker) proofsOf(t testing.TB, c made) []api.Proof {
	t.Helper()
	paths := shuffled(m, pathsOf(c.s, c.name, c.m))
	var l []api.Proof
	for _, p := range paths[:min(8, len(paths))] {
		proof, e := sign.Open(c.s, c.name, c.m, p)
		if e != api.OK {
			t.Fatal(e)
		}
		l = append(l, proof)
	}
	return l
}

// holds looks at P1609: what is verified for the root of a tree is what stands in it.
func holds(t *testing.T, c made, root []byte, p api.Proof) api.Errno {
	t.Helper()
	e := sign.Verify(c.s, c.name, root, p)
	if e == api.OK {
		if v, ok, bad := path.Get(c.s, c.name, c.m, p.Path); !ok || bad != api.OK || !same(v, p.Value) {
			t.Errorf("P1609: Verify of %s at %.80q is OK, but there stands %s", short(p.Value), p.Path, short(v))
		}
	}
	return e
}

func TestForged(t *testing.T) { // P1608, P1609: made proofs of which something is changed, against the second reading: none is verified but of what stands there
	met := map[api.Errno]int{}
	for i, c := range mades(t, 700) {
		m := newMaker(int64(i))
		root, _ := sign.Commit(c.s, c.name, c.m)
		proofs := m.proofsOf(t, c)
		for _, p := range proofs {
			if e := holds(t, c, root, p); e != api.OK {
				t.Errorf("P1609: Verify of what Open answered at %.80q: %v", p.Path, e)
			}
			for range 6 {
				other := m.forged(p, proofs)
				for m.often(3) {
					other = m.forged(other, proofs)
				}
				e := holds(t, c, root, other)
				if want := secondVerify(c.s, c.name, root, other); e != want {
					t.Errorf("P1608: Verify(%q, %.80q, %s, %s) = %v, want %v", c.name, other.Path, short(other.Value), some(other.Rungs), e, want)
				}
				met[e]++
			}
		}
		if t.Failed() {
			t.Fatalf("case %d", i)
		}
	}
	for _, e := range []api.Errno{api.OK, api.ErrForged, api.ErrProof, api.ErrType, api.ErrNormal} {
		if met[e] < 50 {
			t.Errorf("%d proofs are %v: too few", met[e], e)
		}
	}
}

func TestOtherTrees(t *testing.T) { // P1609: the proofs of one tree with the root of another one of that type
	met := map[api.Errno]int{}
	for i, c := range mades(t, 300) {
		m := newMaker(int64(i))
		other := made{c.s, c.name, m.normal(t, c.s, c.name)}
		root, _ := sign.Commit(other.s, other.name, other.m)
		for _, p := range m.proofsOf(t, c) {
			e := holds(t, other, root, p)
			met[e]++
			if e != api.ErrForged && (e != api.OK || !same(c.m, other.m)) {
				t.Errorf("P1609: a proof at %.80q of %s for the root of %s: %v", p.Path, short(c.m), short(other.m), e)
			}
		}
	}
	if met[api.ErrForged] < 500 {
		t.Errorf("%d proofs are of other trees: too few", met[api.ErrForged])
	}
}

// swapped is a tree in which something else stands at a path; false: nothing else can.
func (m *maker) swapped(s *bind.Schema, name string, v api.Value, p string) (api.Value, bool) {
	for range 20 {
		w := m.broken(v)
		in, ok, e := path.Get(s, name, w, p)
		if old, _, _ := path.Get(s, name, v, p); e == api.OK && ok && !same(in, old) {
			return w, true
		}
	}
	return api.Value{}, false
}

func TestSwapped(t *testing.T) { // P1609: of two trees that differ at a path, each one's proof there is not verified for the other
	many := 0
	for i, c := range mades(t, 600) {
		m := newMaker(int64(i))
		for _, p := range m.proofsOf(t, c)[:1] {
			other, ok := m.swapped(c.s, c.name, c.m, p.Path)
			if !ok {
				continue
			}
			many++
			a, _ := sign.Commit(c.s, c.name, c.m)
			b, _ := sign.Commit(c.s, c.name, other)
			q := opens(t, c.s, c.name, other, p.Path)
			if bytes.Equal(a, b) {
				t.Errorf("P1605: %s and %s have one commitment", short(c.m), short(other))
			}
			verifies(t, c.s, c.name, b, p, api.ErrForged)
			verifies(t, c.s, c.name, a, q, api.ErrForged)
			// Each one's value on the other's rungs.
			p.Value, q.Value = q.Value, p.Value
			for _, x := range []api.Proof{p, q} {
				holds(t, c, a, x)
				holds(t, made{c.s, c.name, other}, b, x)
			}
		}
	}
	if many < 50 {
		t.Errorf("%d trees differ: too few", many)
	}
}

func TestAskedOfParts(t *testing.T) { // P1609: a part of a tree, or a node of its digest tree, is taken for no other
	s := load(t, "message M { bytes a = 1; repeated bytes b = 2; map<string, bytes> c = 3; M m = 4; repeated M l = 5; }")
	m := msg(at(1, text("x")), at(2, list(text("x"), text("y"))), at(3, dict(kv("x", text("y")))), at(4, one(1, text("x"))), at(5, list(one(1, text("x")), msg())))
	c := made{s, "M", m}
	root, _ := sign.Commit(s, "M", m)
	p, _ := sign.Open(s, "M", m, "b[1]")
	// The digests beside the way, and those of nodes, as texts: a leaf is hashed in another domain.
	for _, d := range p.Rungs[0].Beside {
		for _, at := range []string{"a", "b[0]", "b[1]", `c["x"]`} {
			q, _ := sign.Open(s, "M", m, at)
			q.Value = text(string(d))
			if e := holds(t, c, root, q); e != api.ErrForged {
				t.Errorf("P1608: a digest as the value at %q: %v", at, e)
			}
		}
	}
	// A list's leaves are the digests of its values: the list of one value that is the left half is none.
	q, _ := sign.Open(s, "M", m, "b[0]")
	q.Rungs[1] = api.Rung{At: 0, Of: 1}
	verifies(t, s, "M", root, q, api.ErrForged)
	// The message in the list, and the one in a field.
	q, _ = sign.Open(s, "M", m, "m")
	q.Path = "l[0]"
	q.Rungs = append(q.Rungs, api.Rung{Of: 1})
	verifies(t, s, "M", root, q, api.ErrForged)
	q, _ = sign.Open(s, "M", m, "l[0]")
	q.Path = "m"
	q.Rungs = q.Rungs[:1]
	verifies(t, s, "M", root, q, api.ErrForged)
	// What stands there is a message of another type with the same fields.
	two := load(t, "message A { B b = 1; C c = 2; } message B { int32 a = 1; } message C { int32 a = 1; }")
	v := msg(at(1, one(1, num(1))), at(2, one(1, num(1))))
	root, _ = sign.Commit(two, "A", v)
	b, _ := sign.Open(two, "A", v, "b")
	b.Path = "c"
	verifies(t, two, "A", root, b, api.ErrForged)
	b.Rungs[0].At = 1
	verifies(t, two, "A", root, b, api.ErrForged)
}
