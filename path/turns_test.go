package path_test

import (
	"sync"
	"testing"

	"sigil/api"
	"sigil/bind"
)

func TestTwoSchemas(t *testing.T) { // P3: schemas with the same names, in turns
	a := load(t, `syntax = "proto3"; message M { int32 a = 1; M m = 2; oneof o { M g = 3; int32 h = 4; } }`)
	b := load(t, `syntax = "proto3"; message M { map<int32, M> a = 1; repeated M m = 2; M g = 3; int32 h = 4; }`)
	c := load(t, `syntax = "proto3"; message M { repeated string a = 1; map<string, M> m = 2; oneof o { int32 h = 4; string a_b = 5; } }`)
	for range 3 {
		parses(t, a, "M", "m.m.a", field(2), field(2), field(1))
		parses(t, b, "M", "m[0].a[1].h", field(2), index(0), field(1), key(num(1)), field(4))
		parses(t, c, "M", `m["x"].aB`, field(2), key(text("x")), field(5))
		parseRefuses(t, a, "M", "m[0]", api.ErrInto)
		parseRefuses(t, b, "M", "m.a", api.ErrInto)
		parseRefuses(t, c, "M", "m[0]", api.ErrKeyText)
		parseRefuses(t, c, "M", "g", api.ErrNoField)
		sets(t, a, "M", one(3, msg()), "h", num(0), one(4, num(0)))
		sets(t, b, "M", one(3, msg()), "h", num(0), one(3, msg()))
		sets(t, c, "M", one(5, text("")), "h", num(1), one(4, num(1)))
		keeps(t, b, "M", one(2, list(one(4, num(1)))), one(2, list(msg())), "m.a")
		maskRefuses(t, a, "M", msg(), api.ErrInto, "m.a.h")
		tells(t, a, "M", one(2, one(1, num(1))), "m.a")
		tells(t, c, "M", one(2, dict(kv("", one(1, list(text("")))))), `m[""].a[0]`)
	}
}

func TestAskedAtOnce(t *testing.T) { // P3: several that ask at the same time, of one schema
	s, _ := bind.Load([]api.Source{{Name: "f", Text: wide()}})
	var l []question
	var want []string
	for seed := range int64(40) {
		m := newMaker(seed)
		m.s = s
		q := m.ask()
		l, want = append(l, q), append(want, answered(s, q).told())
	}
	var all sync.WaitGroup
	for i := range 8 {
		all.Go(func() {
			for j := range l {
				k := (i*5 + j) % len(l)
				if got := answered(s, l[k]).told(); got != want[k] {
					t.Errorf("P3: asked with others: %s, want %s", got, want[k])
				}
			}
		})
	}
	all.Wait()
}
