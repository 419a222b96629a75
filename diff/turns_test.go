package diff_test

import (
	"slices"
	"sync"
	"testing"

	"sigil/api"
	"sigil/bind"
	"sigil/diff"
)

func TestTwoSchemas(t *testing.T) { // P3: schemas with the same names, in turns
	a := proto(t, "message M { int32 a = 1; M m = 2; oneof o { M g = 3; int32 h = 4; } }")
	b := proto(t, "message M { map<int32, M> a = 1; repeated M m = 2; M g = 3; int32 h = 4; }")
	c := proto(t, "message M { repeated string a = 1; map<string, M> m = 2; oneof o { int32 h = 4; string a_b = 5; } }")
	for range 3 {
		turns(t, a, "M", one(1, num(1)), one(1, num(2)), set("a", num(2)))
		turns(t, b, "M", one(1, dict(pair(num(1), msg()))), one(1, dict(pair(num(2), msg()))), drop("a[1]"), set("a[2]", msg()))
		turns(t, c, "M", one(1, list(text("1"))), one(1, list(text("2"))), splice("a", 0, 1, text("2")))
		treesRefuse(t, a, "M", one(1, list(text("1"))), msg(), api.ErrType)
		refuses(t, a, "M", msg(), api.ErrBase, splice("m", 0, 0))
		applies(t, b, "M", msg(), one(2, list(msg())), splice("m", 0, 0, msg()))
		refuses(t, c, "M", msg(), api.ErrBase, splice("m", 0, 0))
		applies(t, a, "M", one(3, msg()), one(4, num(0)), set("h", num(0)))
		applies(t, b, "M", one(3, msg()), one(3, msg()), set("h", num(0)))
		changes(t, a, b, from(api.CType, "M", 1, "int32", "map<int32, .M>"), from(api.CCard, "M", 1, "single", "map"), from(api.CCard, "M", 2, "single", "repeated"), from(api.COneof, "M", 3, "o", ""), from(api.COneof, "M", 4, "o", ""))
		changes(t, a, a)
	}
}

func TestAskedAtOnce(t *testing.T) { // P3: several that ask at the same time, of one schema
	s, _ := bind.Load([]api.Source{{Name: "f", Text: wide()}})
	u := load(t, small)
	all := diff.Schemas(s, u)
	var l []question
	var want []string
	for seed := range int64(60) {
		m := newMaker(seed)
		m.s = s
		q := m.ask()
		l, want = append(l, q), append(want, answered(s, q).told())
	}
	var group sync.WaitGroup
	for i := range 8 {
		group.Go(func() {
			for j := range l {
				k := (i*7 + j) % len(l)
				if got := answered(s, l[k]).told(); got != want[k] {
					t.Errorf("P3: asked with others: %s, want %s", got, want[k])
				}
			}
			if got := diff.Schemas(s, u); !slices.Equal(got, all) {
				t.Errorf("P3: asked with others: %+v, want %+v", got, all)
			}
		})
	}
	group.Wait()
}

func TestRefusedAhead(t *testing.T) { // P3, P4: what was refused leaves nothing behind
	for seed := range int64(300) {
		m := newMaker(seed)
		q := m.ask()
		want := answered(m.s, q).told()
		diff.Trees(m.s, "none", q.a, q.b)
		diff.Trees(m.s, q.name, q.a, num(1))
		diff.Apply(m.s, q.name, q.a, slices.Concat(q.l, []api.Edit{drop("none")}))
		diff.Back(m.s, q.name, q.a, slices.Concat(q.l, []api.Edit{{Kind: 9}}))
		diff.Apply(m.s, q.name, num(1), q.l)
		if got := answered(m.s, q).told(); got != want {
			t.Fatalf("P3: %s, want %s", got, want)
		}
	}
}
