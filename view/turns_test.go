package view_test

import (
	"sync"
	"testing"

	"sigil/api"
	"sigil/path"
	"sigil/view"
)

// question is a path of a view.
type question struct {
	g glass
	p string
}

// questions are some of made messages, of which some are broken, and of views within them.
func questions(t testing.TB, n int) []question {
	t.Helper()
	q := ofWide()
	var l []question
	for seed := range int64(n) {
		m := newMaker(seed)
		m.rare = pick(m, 0, 40)
		b := m.message("w.W", 4)
		g := open(t, q.s, "w.W", b)
		for range 5 {
			steps := m.steps(q, "w.W", b)
			p, e := path.Print(q.s, "w.W", steps)
			if e != api.OK {
				continue
			}
			l = append(l, question{g, p})
			if in, _, _ := g.At(p); in != nil {
				l = append(l, question{glass{in, q.s, leads(q.s, "w.W", steps).Of, nil}, ""})
			}
		}
		l = append(l, question{g, "?"}, question{g, "s3"}, question{g, "r3"}, question{g, "m17"})
	}
	return l
}

func TestAskedAgain(t *testing.T) { // P2111, P3: the same again, in whatever order, beside one another
	t.Parallel()
	l := questions(t, 200)
	var want []string
	for _, c := range l {
		want = append(want, tellsAll(c.g, c.p))
	}
	for round := range 3 {
		for _, i := range newMaker(int64(round)).Perm(len(l)) {
			if got := tellsAll(l[i].g, l[i].p); got != want[i] {
				t.Fatalf("P2111: asked again at %.100q: %.300s, before it was %.300s", l[i].p, got, want[i])
			}
		}
	}
}

func TestEveryTwoQuestions(t *testing.T) { // P2111: each question behind each other one, at each path, of one view
	b := rows(row("18 05"), record(api.TMessage, row("18 07")), record(repeated+api.TInt32, row("01 80")), record(mapped+api.TMessage, row("0a 01 6b 12 02 18 05")), record(mapped+api.TInt32, row("0a 01 ff")), record(listV, row("08 02")), record(listV, row("00")), record(tail, row("ff")))
	asks := []func(g glass, p string) []any{
		func(g glass, p string) []any { v, e := g.Has(p); return []any{v, e} },
		func(g glass, p string) []any { v, ok, e := g.Get(p); return []any{v, ok, e} },
		func(g glass, p string) []any { v, e := g.Len(p); return []any{v, e} },
		func(g glass, p string) []any { v, ok, e := g.Bytes(p); return []any{v, ok, e} },
		func(g glass, p string) []any { v, ok, e := g.At(p); return []any{v != nil, ok, e} },
		func(g glass, p string) []any {
			all, e := g.Each(p)
			if all == nil {
				return []any{nil, e}
			}
			return []any{told(all, -1), e}
		},
	}
	paths := []string{"", "s3", "s17", "s17.s3", "r3", "r3[0]", "m17", `m17["k"]`, `m17["k"].s3`, "m3", `m3["k"]`, "lv", "lv[0].a", "lv[1].a", "tail", "o3", "?"}
	alone := map[string]string{}
	for _, p := range paths {
		for i, ask := range asks {
			alone[named(p, i, "")] = short(ask(open(t, wideSchema(), "w.W", b), p))
		}
	}
	v := open(t, wideSchema(), "w.W", b)
	for _, first := range paths {
		for _, p := range paths {
			for i, ask := range asks {
				for _, ahead := range asks {
					ahead(v, first)
					if got := short(ask(v, p)); got != alone[named(p, i, "")] {
						t.Fatalf("P2111: the question %d at %q behind one at %q: %s, want %s", i, p, first, got, alone[named(p, i, "")])
					}
				}
			}
		}
	}
}

func TestAskedAtOnce(t *testing.T) { // P2111, P3: several that ask one view at the same time
	t.Parallel()
	l := questions(t, 60)
	var want []string
	for _, c := range l {
		want = append(want, tellsAll(c.g, c.p))
	}
	var all sync.WaitGroup
	for i := range 8 {
		all.Go(func() {
			for j := range l {
				k := (i*13 + j) % len(l)
				if got := tellsAll(l[k].g, l[k].p); got != want[k] {
					t.Errorf("P2111: asked with others at %.100q: %.300s, want %.300s", l[k].p, got, want[k])
				}
			}
		})
	}
	all.Wait()
}

func TestSameNames(t *testing.T) { // P3: views of schemas that have the same names, in turns
	x := load(t, `syntax = "proto3"; message M { int32 a = 1; M m = 2; }`)
	y := load(t, `syntax = "proto3"; message M { repeated sint32 a = 1; map<int32, M> m = 2; }`)
	z := load(t, `syntax = "proto3"; message M { bool a = 1; optional bytes m = 2; }`)
	b := row("08 03 12 02 08 01")
	for range 3 {
		vx, vy, vz := open(t, x, "M", b), open(t, y, "M", b), open(t, z, "M", b)
		vx.scalar(t, "a", num(3))
		vx.message(t, "m", one(1, num(1)), "08 01")
		vy.many(t, "a", list(num(-2)), 1)
		vy.many(t, "m", dict(pair(num(1), msg())), 1)
		vz.scalar(t, "a", num(1))
		vz.scalar(t, "m", text("\x08\x01"))
		vx.scalar(t, "m.a", num(1))
		vy.many(t, "m[1].a", nil, 0)
		vz.fails(t, "m.a", api.ErrInto)
	}
}

func TestRefusedLeavesNothing(t *testing.T) { // P4: what was refused changes nothing
	v := opens(t, "3a 01 08 08 05 1a 01 80")
	want := tellsAll(v, "a") + tellsAll(v, "g.a") + tellsAll(v, "c") + tellsAll(v, "")
	for range 3 {
		v.fails(t, "z", api.ErrNoField)
		v.fails(t, "c.a", api.ErrInto)
		v.scalar(t, "g.a", api.ErrEnds)
		v.many(t, "c", api.ErrEnds, api.ErrEnds)
		if w, _, _ := view.Open(v.s, "p.M", row("08")); w != nil {
			t.Fatal("P4: a view beside an error")
		}
		if got := tellsAll(v, "a") + tellsAll(v, "g.a") + tellsAll(v, "c") + tellsAll(v, ""); got != want {
			t.Errorf("P4: behind what was refused: %s, want %s", got, want)
		}
	}
}
