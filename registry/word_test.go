package registry_test

import (
	"fmt"
	"slices"
	"testing"

	"sigil/api"
	"sigil/bind"
	"sigil/compat"
	"sigil/encode"
	"sigil/loose"
	"sigil/registry"
	"sigil/tree"
)

// toldEdition is a version as the registry tells it, with the schema of its files.
func toldEdition(t testing.TB, r *registry.Registry, subject string, number int) edition {
	t.Helper()
	v, e := r.Get(subject, number)
	if e != api.OK {
		t.Fatal(e)
	}
	return edition{v, load(t, v.Files)}
}

// canRead says whether one version can read what another wrote.
func canRead(wrote, reads edition) bool {
	b, e := compat.Check(wrote.schema, wrote.Type, reads.schema, reads.Type)
	return e == api.OK && b.Rule == 0
}

// keepsWord looks at P1809 for all living versions of a subject; it tells how many pairs there are.
func keepsWord(t *testing.T, r *registry.Registry, told api.Subject) int {
	t.Helper()
	var l []edition
	for _, n := range told.Versions {
		l = append(l, toldEdition(t, r, told.Name, n))
	}
	pairs := 0
	for i, later := range l {
		for _, earlier := range l[:i] {
			pairs++
			if told.Rule != api.RForwardAll && !canRead(earlier, later) {
				t.Fatalf("P1809: rule %d: the version %d can't read what %d wrote", told.Rule, later.Number, earlier.Number)
			}
			if told.Rule != api.RBackwardAll && !canRead(later, earlier) {
				t.Fatalf("P1809: rule %d: the version %d can't read what %d wrote", told.Rule, earlier.Number, later.Number)
			}
		}
	}
	return pairs
}

// line makes schemas each of which can read what those ahead wrote, but for a few; by a rule for both ways just names and cards are changed.
func (m *maker) line(rule int) []made {
	by := change{wider: 6, gone: 12, fresh: 3}
	if rule == api.RFullAll {
		by = change{letter: true, optional: 2}
	}
	l := []made{m.schema()}
	for range 9 {
		l = append(l, m.next(l[len(l)-1], by))
	}
	if rule == api.RForwardAll {
		slices.Reverse(l)
	}
	return l
}

func TestRuleKeepsWord(t *testing.T) { // P1809: of every two living versions, if the rule was set behind the first one
	for rule := api.RBackwardAll; rule <= api.RFullAll; rule++ {
		pairs, refused := 0, 0
		for seed := range int64(60) {
			m := newMaker(seed*3 + int64(rule))
			x := fresh(t)
			for _, s := range m.line(rule) {
				if m.often(3) {
					wild := m.next(s, change{wild: 4})
					x.register("s", m.sources(wild), fmt.Sprint(wild.letter, 0))
					x.rules("s", rule, api.OK)
				}
				_, e := x.register("s", m.sources(s), fmt.Sprint(s.letter, 0))
				if e == api.ErrRefused {
					refused++
				}
				x.rules("s", rule, api.OK)
				if l := x.s.living("s"); len(l) > 0 && m.often(5) {
					x.drops("s", l[m.Intn(len(l))].Number, api.OK)
				}
				if m.often(8) {
					x = x.again()
				}
			}
			pairs += keepsWord(t, x.r, x.r.List()[0])
		}
		if pairs < 300 || refused < 50 {
			t.Errorf("P1809: rule %d: %d pairs, %d refused: too few", rule, pairs, refused)
		}
	}
}

func TestNotTransitive(t *testing.T) { // P1809: each living version is asked: one may read what the last one wrote, and not what the one ahead of that did
	a, b, c := of("A", "bool a = 1;"), of("B", "int32 a = 1;"), offer{"message C { E a = 1; } enum E { Z = 0; }", "C"}
	x := history(t, api.RBackwardAll, nil, a)
	x.registers("s", src(b.text), "B", 2, api.OK)
	x.breaks("s", src(c.text), "C", breakAt1(api.BType, "A", "C"))
	x.rules("s", api.RBackward, api.OK)
	x.registers("s", src(c.text), "C", 3, api.OK)
	x = history(t, api.RForwardAll, nil, c)
	x.registers("s", src(b.text), "B", 2, api.OK)
	x.breaks("s", src(a.text), "A", breakAt1(api.BType, "A", "C"))
	x.rules("s", api.RForward, api.OK)
	x.registers("s", src(a.text), "A", 3, api.OK)
}

// treesOf are normal trees of a type.
func (m *maker) treesOf(t testing.TB, s *bind.Schema, name string) []api.Value {
	t.Helper()
	l := []api.Value{msg()}
	for range 4 {
		v, _, e := tree.Normalise(s, name, m.tree(s, name, 1+m.Intn(4)))
		if e != api.OK {
			t.Fatal(e)
		}
		l = append(l, v)
	}
	return l
}

func TestReading(t *testing.T) { // P1810: what Read answers is what loose.Decode does; and it answers, where the rules are kept
	reads, not := 0, 0
	for seed := range int64(80) {
		m := newMaker(3000 + seed)
		r, _, _ := registry.Open(nil)
		w := m.world()
		for i, s := range w.schemas {
			r.Register("s", m.sources(s), fmt.Sprint(s.letter, 0))
			if i == 0 {
				r.Rule("s", api.RNone)
			}
		}
		var l []edition
		for _, n := range r.List()[0].Versions {
			l = append(l, toldEdition(t, r, "s", n))
		}
		gone := 1 + m.Intn(len(l)) // it may have written, but not read
		r.Drop("s", gone)
		for _, wrote := range l {
			encoder := encode.New(wrote.schema)
			for _, v := range m.treesOf(t, wrote.schema, wrote.Type) {
				b, e := encoder.Encode(wrote.Type, v)
				if e != api.OK {
					t.Fatal(e)
				}
				for _, to := range l {
					got, e := r.Read("s", wrote.Number, to.Number, b)
					want, _, why := loose.Decode(to.schema, to.Type, b)
					switch {
					case to.Number == gone:
						want, why = api.Value{}, api.ErrGone
					case !canRead(wrote, to):
						want, why = api.Value{}, api.ErrCompat
						not++
					case why == api.OK:
						reads++
					}
					if e != why || !same(got, want) {
						t.Fatalf("P1810: Read(%d, %d, %x) = %s, %v, want %s, %v", wrote.Number, to.Number, b, some(got), e, some(want), why)
					}
				}
			}
		}
	}
	if reads < 1000 || not < 500 {
		t.Errorf("%d are read, %d not: too few", reads, not)
	}
}
