package project_test

import (
	"fmt"
	"strings"
	"sync"
	"testing"

	"sigil/api"
	"sigil/project"
	"sigil/tree"
)

// answers is all that a plan's calls answer of a tree, in words.
func answers(p *project.Plan, v api.Value) string {
	got, e := p.Do(v)
	l, f := p.Lost(v)
	return fmt.Sprintf("%s %v %q %v %v", spelled(got), e, l, f, p.Whole())
}

// spelled tells a whole tree; nil and empty lists are the same.
func spelled(v api.Value) string {
	var b strings.Builder
	fmt.Fprintf(&b, "%d %d %q [", v.Kind, v.Num, v.Text)
	for _, in := range v.List {
		b.WriteString(spelled(in) + ",")
	}
	b.WriteString("] {")
	for _, in := range v.Fields {
		fmt.Fprint(&b, in.Number, ":", spelled(in.Value), ",")
	}
	return b.String() + "}"
}

// someWays are ways between made types that there are plans of, those with more than one pair of types.
func someWays(t testing.TB, n int) []way {
	var l []way
	for seed := int64(0); len(l) < n; seed++ {
		m := newMaker(seed)
		old := m.schema()
		for _, w := range ways(t, old.text("A"), m.next(old, fair).text("B")) {
			if _, e := project.New(w.from, w.wrote, w.to, w.reads); e == api.OK && m.often(2) {
				l = append(l, w)
			}
		}
	}
	return l
}

func TestAskedBefore(t *testing.T) { // P1501, P3: one plan that is asked of right trees and wrong ones, by each call, answers what a new one does
	refused := 0
	for i, w := range someWays(t, 200) {
		m := newMaker(int64(i))
		old := w.plan(t)
		for range 25 {
			v := m.normal(t, w.from, w.wrote)
			if m.often(3) {
				v = m.broken(v)
			}
			fresh := w.plan(t)
			var got, want string
			switch m.Intn(3) {
			case 0:
				x, e := old.Do(v)
				y, f := fresh.Do(v)
				got, want = fmt.Sprint(spelled(x), e), fmt.Sprint(spelled(y), f)
				if e != api.OK {
					refused++
				}
			case 1:
				x, e := old.Lost(v)
				y, f := fresh.Lost(v)
				got, want = fmt.Sprintf("%q %v", x, e), fmt.Sprintf("%q %v", y, f)
			default:
				got, want = fmt.Sprint(old.Whole()), fmt.Sprint(fresh.Whole())
			}
			if got != want {
				t.Fatalf("P1501: of %s: %s, a new plan answers %s", short(v), got, want)
			}
		}
	}
	if refused < 200 {
		t.Errorf("%d trees are refused: too few", refused)
	}
}

func TestAskedAgain(t *testing.T) { // P1501, P3: the same again, whatever was asked between
	for i, w := range someWays(t, 100) {
		p := w.plan(t)
		var before []string
		for round := range 3 {
			m := newMaker(int64(i))
			for k := range 20 {
				v := m.normal(t, w.from, w.wrote)
				if k%3 == 0 {
					v = m.broken(v)
				}
				got := answers(p, v)
				if round == 0 {
					before = append(before, got)
				} else if got != before[k] {
					t.Fatalf("P1501: of %s: %s, before it was %s", short(v), got, before[k])
				}
			}
		}
	}
}

func TestRefusedBetween(t *testing.T) { // P4: what was refused, in whatever pair it stood, leaves nothing behind
	w := of(t, oldErrors, newErrors)
	p := w.plan(t)
	right := msg(at(1, num(5)), at(3, msg(at(4, text("x")), at(6, msg()))), at(7, dict(pair(num(1), one(5, num(0))))))
	want := msg(at(1, list(num(5))), at(3, one(6, list(msg()))), at(7, dict(pair(num(1), msg()))))
	wrong := []api.Value{num(0), one(9, num(0)), one(1, num(0)), chain(64, 3, msg()), chain(200, 3, msg()), one(4, big(1<<20)), one(9, big(1<<20-4)), msg(at(1, num(1)), at(9, big(1<<20-6)))}
	for range 2 {
		for _, v := range wrong {
			if _, e := p.Do(v); e == api.OK && v.Fields[0].Number != 9 {
				t.Errorf("P1502: %s is not refused", short(v))
			}
			p.Lost(v)
			w.makes(t, p, right, want, "3.4", "7.0.2.5")
		}
	}
}

func TestTurns(t *testing.T) { // P1501: types that hold one another, whichever pair of them is met first
	const old = "message A { A a = 1; B b = 2; optional int32 n = 3; } message B { repeated A a = 1; map<int32, C> c = 2; optional int32 n = 3; } message C { oneof o { A a = 1; B b = 2; C c = 4; } optional int32 n = 3; }"
	const now = "message X { Y a = 1; V b = 2; X c = 4; int32 n = 3; } message Y { W a = 1; Z b = 2; optional int32 n = 3; } message V { repeated Y a = 1; map<int32, X> c = 2; repeated int32 n = 3; } message W { Y a = 1; V b = 2; int32 n = 3; } message Z { reserved 1 to 3; }"
	w := between(t, old, "C", now, "X")
	n := at(3, num(0))
	trees := []struct {
		v, want api.Value
		lost    string
	}{
		{msg(n), msg(), "3"},
		{one(1, msg(n)), one(1, msg(n)), ""},
		{one(1, one(1, msg(n))), one(1, one(1, msg())), "1.1.3"},
		{one(1, one(1, one(1, msg(n)))), one(1, one(1, one(1, msg(n)))), ""},
		{one(1, one(2, msg(n))), one(1, one(2, msg())), "1.2.3"},
		{one(2, msg(n)), one(2, msg(at(3, list(num(0))))), ""},
		{one(2, one(1, list(msg(n), one(1, msg(n))))), one(2, one(1, list(msg(n), one(1, msg())))), "2.1.1.1.3"},
		{one(2, one(2, dict(pair(num(7), msg(n))))), one(2, one(2, dict(pair(num(7), msg())))), "2.2.0.2.3"},
		{one(4, one(4, one(1, msg(n)))), one(4, one(4, one(1, msg(n)))), ""},
	}
	for turn := range trees {
		p := w.plan(t)
		for i := range trees {
			c := trees[(i+turn)%len(trees)]
			w.makes(t, p, c.v, c.want, strings.Fields(c.lost)...)
		}
	}
}

func TestManyPlans(t *testing.T) { // P3: plans between schemas with the same names do not meet
	a := load(t, "message M { optional int32 a = 1; M m = 2; }")
	b := load(t, "message M { int32 a = 1; M m = 2; }")
	c := load(t, "message M { repeated int32 a = 1; repeated M m = 2; }")
	v := msg(at(1, num(0)), at(2, one(1, num(0))))
	ab, ac, aa, bc := way{a, "M", b, "M"}, way{a, "M", c, "M"}, way{a, "M", a, "M"}, way{b, "M", c, "M"}
	p, q, r, s := ab.plan(t), ac.plan(t), aa.plan(t), bc.plan(t)
	for range 2 {
		ab.makes(t, p, v, one(2, msg()), "1", "2.1")
		ac.makes(t, q, v, msg(at(1, list(num(0))), at(2, list(one(1, list(num(0)))))))
		aa.makes(t, r, v, v)
		refuses(t, s, v, api.ErrNormal)
		if p.Whole() || !q.Whole() || !r.Whole() || !s.Whole() {
			t.Errorf("P1504: %v %v %v %v", p.Whole(), q.Whole(), r.Whole(), s.Whole())
		}
	}
	// Two types of each schema: the plan of one pair is not that of the other.
	x := load(t, "message M { N n = 1; optional int32 a = 2; } message N { M m = 1; optional int32 a = 2; }")
	y := load(t, "message M { N n = 1; int32 a = 2; } message N { M m = 1; optional int32 a = 2; }")
	v = msg(at(1, msg(at(1, one(2, num(0))), at(2, num(0)))), at(2, num(0)))
	way{x, "M", y, "M"}.becomes(t, v, one(1, msg(at(1, msg()), at(2, num(0)))), "1.1.2", "2")
	way{x, "N", y, "N"}.becomes(t, v, msg(at(1, msg(at(1, one(2, num(0))))), at(2, num(0))), "1.2")
}

func TestAtTheSameTime(t *testing.T) { // P3: one plan that is asked by many at a time, of pairs of types that it has not met
	w := between(t, ring("A", 9, "optional int32 x = 2;"), "A0", strings.ReplaceAll(ring("B", 10, ""), "m = 1;", "m = 1; int32 x = 2;"), "B0")
	var trees, made []api.Value
	for n := range 64 {
		v, want := msg(), msg()
		if n%9 == 0 {
			v = one(2, num(0))
		}
		v, want = chain(n, 1, v), chain(n, 1, want)
		trees, made = append(trees, v), append(made, want)
	}
	for range 20 {
		p := w.plan(t)
		var all sync.WaitGroup
		for i := range 8 {
			all.Go(func() {
				for k := range trees {
					k = (k*7 + i*8) % len(trees)
					got, e := p.Do(trees[k])
					l, f := p.Lost(trees[k])
					if e != api.OK || f != api.OK || !tree.Equal(got, made[k]) || (k%9 == 0) != (len(l) == 1) || p.Whole() {
						t.Errorf("P3: of %s: %s, %v, %q, %v", short(trees[k]), short(got), e, l, f)
					}
				}
			})
		}
		all.Wait()
	}
}

func TestPlansAreKept(t *testing.T) { // the chapter's 'Ways': what becomes of the fields of a pair is made once, not for each tree or message
	var old, now strings.Builder
	for i := 2; i <= api.MaxFields; i++ {
		fmt.Fprintf(&old, " int32 f%d = %d;", i, i)
		fmt.Fprintf(&now, " repeated int64 f%d = %d;", i, i)
	}
	w := of(t, "message M { M m = 1;"+old.String()+" }", "message M { M m = 1;"+now.String()+" }")
	p := w.plan(t)
	v := chain(9, 1, one(2, num(1)))
	w.makes(t, p, v, chain(9, 1, one(2, list(num(1)))))
	if n := testing.AllocsPerRun(20, func() { p.Do(v) }); n > 200 {
		t.Errorf("a tree of ten messages costs %v pieces of memory", n)
	}
}
