package project_test

import (
	"slices"
	"testing"

	"sigil/api"
	"sigil/project"
	"sigil/tree"
)

// told are trees of which nothing is lost, with what is made of them.
type told struct{ trees, made []api.Value }

// add takes a tree in, and looks whether another one became the same.
func (k *told) add(t *testing.T, v, made api.Value, lost []string) {
	t.Helper()
	if len(lost) > 0 {
		return
	}
	for i := range k.made {
		if tree.Equal(k.made[i], made) && !tree.Equal(k.trees[i], v) {
			t.Fatalf("P1507: nothing is lost of %s and %s, and both become %s", short(v), short(k.trees[i]), short(made))
		}
	}
	k.trees, k.made = append(k.trees, v), append(k.made, made)
}

func TestItIsWhatIsRead(t *testing.T) { // P1505, P1506: made schemas and trees: what loose reads of what encode wrote
	all, changed, lossy, whole := 0, 0, 0, 0
	for seed := range int64(1000) {
		m := newMaker(seed)
		old := m.schema()
		now := m.next(old, pick(m, fair, fair, frugal, wild))
		for _, w := range ways(t, old.text("A"), now.text("B")) {
			p, e := project.New(w.from, w.wrote, w.to, w.reads)
			if e != api.OK {
				continue
			}
			for range 4 {
				v := m.normal(t, w.from, w.wrote)
				made, lost := w.judged(t, p, v)
				all++
				if !tree.Equal(v, made) {
					changed++
				}
				if len(lost) > 3 {
					lossy++
				}
				if p.Whole() && len(v.Fields) > 2 {
					whole++
				}
			}
			if t.Failed() {
				t.Fatalf("seed %d: %s, %s", seed, old.text("A"), now.text("B"))
			}
		}
	}
	if all < 5000 || changed < 2000 || lossy < 500 || whole < 500 {
		t.Errorf("%d trees are read, %d of them as others, of %d much is lost, %d are of plans that are Whole: too few", all, changed, lossy, whole)
	}
}

// wide is the text of a schema that has every type with every card, every key, and members of oneofs.
func wide() string {
	s := made{make([]madeMessage, 2)}
	for typ := api.TDouble; typ <= api.TMessage; typ++ {
		for card := api.CSingle; card <= api.CMap; card++ {
			f := madeField{number: 100*card + typ, card: card, typ: typ, of: typ % 2}
			if card == api.CMap {
				f.key = api.TString
			}
			s.messages[0].fields = append(s.messages[0].fields, f)
		}
		s.messages[0].fields = append(s.messages[0].fields, madeField{number: 500 + typ, card: api.CSingle, typ: typ, of: 1, oneof: 1 + typ%3})
	}
	for _, key := range keyTypes {
		s.messages[1].fields = append(s.messages[1].fields, madeField{number: 600 + key, card: api.CMap, typ: api.TMessage, key: key})
	}
	return s.text("A")
}

func TestWithItself(t *testing.T) { // P1506: a schema with itself, and each type with itself, keeps all
	texts := []string{wide(), oldExample, newExample, oldLost, newLost, oldErrors, ring("A", 512, "")}
	for seed := range int64(150) {
		texts = append(texts, newMaker(seed).schema().text("A"))
	}
	for i, text := range texts {
		m := newMaker(int64(i))
		s, again := load(t, text), load(t, text)
		for k, name := range s.Messages() {
			if k > 20 {
				break
			}
			for _, w := range []way{{s, name, s, name}, {s, name, again, name}} {
				p := w.plan(t)
				if !p.Whole() {
					t.Fatalf("P1506: %s of %s with itself is not Whole", name, some(text))
				}
				for range 3 {
					v := m.normal(t, s, name)
					w.makes(t, p, v, v)
				}
			}
		}
	}
}

func TestEveryZeroWithItself(t *testing.T) { // P1506: every explicit zero stays
	w := of(t, wide(), wide())
	w.wrote, w.reads = "A0", "A0"
	v := msg()
	info, _ := w.from.Message("A0")
	taken := map[int]int{}
	for _, f := range info.Fields {
		if f.Card == api.CSingle && f.Oneof == 0 && f.Type != api.TMessage {
			continue
		}
		if taken[f.Oneof]++; f.Oneof == 0 || taken[f.Oneof] == 1 {
			in := zero(f)
			if f.Type == api.TMessage {
				in = zero(api.Field{Card: f.Card, Key: f.Key, Type: api.TMessage})
			}
			v.Fields = append(v.Fields, at(f.Number, in))
		}
	}
	w.becomes(t, v, v)
}

// variants are normal trees near one: without a field, with another value, zero or not, in a field's place, and so within.
func (m *maker) variants(t *testing.T, w way, name string, v api.Value) []api.Value {
	t.Helper()
	var l []api.Value
	put := func(i int, in ...api.Entry) {
		l = append(l, msg(slices.Concat(v.Fields[:i], in, v.Fields[i+1:])...))
	}
	for i, in := range v.Fields {
		f, _ := w.from.Field(name, in.Number)
		put(i)
		put(i, at(in.Number, zero(f)))
		switch in.Value.Kind {
		case api.VNum, api.VText:
			put(i, at(in.Number, pick(m, samples(f.Type)...)))
		case api.VList, api.VMap:
			for k := range in.Value.List {
				put(i, at(in.Number, api.Value{Kind: in.Value.Kind, List: slices.Delete(slices.Clone(in.Value.List), k, k+1)}))
			}
		case api.VMessage:
			for _, inner := range m.variants(t, w, f.Of, in.Value) {
				put(i, at(in.Number, inner))
			}
		}
	}
	for i := range l {
		var e api.Errno
		if l[i], _, e = tree.Normalise(w.from, name, l[i]); e != api.OK {
			t.Fatal(e)
		}
	}
	return l
}

func TestUnlikeStayUnlike(t *testing.T) { // P1507: trees near one another, of made schemas
	kept, lossy, same := 0, 0, 0
	for seed := range int64(400) {
		m := newMaker(seed)
		old := m.schema()
		for _, w := range ways(t, old.text("A"), m.next(old, fair).text("B")) {
			p, e := project.New(w.from, w.wrote, w.to, w.reads)
			if e != api.OK {
				continue
			}
			v, _, e := tree.Normalise(w.from, w.wrote, m.tree(w.from, w.wrote, 2))
			if e != api.OK {
				t.Fatal(e)
			}
			near := m.variants(t, w, w.wrote, v)
			var all told
			first, _ := p.Do(v)
			for _, v := range append(near[:min(80, len(near))], v, msg()) {
				made, e := p.Do(v)
				lost, f := p.Lost(v)
				if e != api.OK || f != api.OK {
					t.Fatal(e, f)
				}
				all.add(t, v, made, lost)
				if len(lost) > 0 {
					lossy++
				}
				if tree.Equal(made, first) {
					same++
				}
			}
			kept += len(all.trees)
		}
	}
	if kept < 2000 || lossy < 2000 || same < 1000 {
		t.Errorf("nothing is lost of %d trees, something of %d, %d become what others do: too few", kept, lossy, same)
	}
}

func TestTwoThatBecomeOne(t *testing.T) { // P1507: where two trees become one, something is told as lost of one of them
	w := of(t, "message M { optional int32 a = 1; int32 b = 2; M m = 3; oneof o { string c = 4; bool d = 5; } }", "message M { int32 a = 1; reserved 2; repeated M m = 3; string c = 4; bool d = 5; }")
	w.becomes(t, msg(), msg())
	w.becomes(t, one(1, num(0)), msg(), "1")
	w.becomes(t, one(2, num(5)), msg(), "2")
	w.becomes(t, one(4, text("")), msg(), "4")
	w.becomes(t, one(5, num(0)), msg(), "5")
	w.becomes(t, one(3, msg()), one(3, list(msg())))
	w.becomes(t, one(3, one(1, num(0))), one(3, list(msg())), "3.1")
}

// three are the plans between three schemas, if there are all of them.
func three(t *testing.T, a, b, c way) (p, q, r *project.Plan, ok bool) {
	t.Helper()
	p, e := project.New(a.from, a.wrote, b.from, b.wrote)
	q, f := project.New(b.from, b.wrote, c.from, c.wrote)
	r, g := project.New(a.from, a.wrote, c.from, c.wrote)
	return p, q, r, e == api.OK && f == api.OK && g == api.OK
}

// typ is a type of a schema, as a way that begins there.
func typ(t *testing.T, text, name string) way {
	t.Helper()
	return way{from: load(t, text), wrote: name}
}

func TestThreeSchemas(t *testing.T) { // P1508: by way of a plan that is Whole, and straight
	tried, changed, lossy, by := 0, 0, 0, 0
	for seed := range int64(1500) {
		m := newMaker(seed)
		first := m.schema()
		second := m.next(first, pick(m, frugal, frugal, fair))
		third := m.next(second, pick(m, fair, frugal))
		a, b, c := typ(t, first.text("A"), "A0"), typ(t, second.text("B"), "B0"), typ(t, third.text("C"), "C0")
		p, q, r, ok := three(t, a, b, c)
		if !ok {
			continue
		}
		for range 6 {
			v := m.normal(t, a.from, a.wrote)
			x, e := p.Do(v)
			y, f := q.Do(x)
			z, g := r.Do(v)
			if e != api.OK || f != api.OK || g != api.OK {
				t.Fatal(e, f, g)
			}
			if !p.Whole() {
				if !tree.Equal(y, z) {
					by++
				}
				continue
			}
			tried++
			if !tree.Equal(y, z) {
				t.Fatalf("P1508: %s becomes %s by %s, and %s straight", short(v), short(y), short(x), short(z))
			}
			if !tree.Equal(v, x) && !tree.Equal(x, y) {
				changed++
			}
			if l, _ := q.Lost(x); len(l) > 0 {
				lossy++
			}
		}
	}
	if tried < 2000 || changed < 500 || lossy < 500 || by == 0 {
		t.Errorf("%d trees, %d changed by both plans, of %d the second loses something, %d of first plans that are not Whole become others: too few", tried, changed, lossy, by)
	}
}

func TestThreeOfOneField(t *testing.T) { // P1508: every two changes of a field that the rules let pass
	all := forms()
	all = slices.DeleteFunc(all, func(f form) bool { return f.card == api.CMap && f.typ != api.TMessage && f.key == api.TBool })
	var a, b, c []way
	for _, f := range all {
		a = append(a, typ(t, f.text("optional int32 b = 2;"), "M"))
		b = append(b, typ(t, f.text("oneof p { int32 b = 2; }"), "M"))
		c = append(c, typ(t, f.text("int64 b = 2;"), "M"))
	}
	plans := func(x, y []way) [][]*project.Plan {
		l := make([][]*project.Plan, len(x))
		for i := range x {
			for k := range y {
				p, _ := project.New(x[i].from, "M", y[k].from, "M")
				l[i] = append(l[i], p)
			}
		}
		return l
	}
	ab, bc, ac := plans(a, b), plans(b, c), plans(a, c)
	count, none := 0, 0
	for i, f := range all {
		trees := f.trees(t, a[i].from)
		for k := range all {
			for n := range all {
				if ab[i][k] == nil || bc[k][n] == nil || !ab[i][k].Whole() {
					continue
				}
				if ac[i][n] == nil {
					none++ // a bool by way of an int32 to an enum
					continue
				}
				count++
				for _, v := range trees {
					x, e := ab[i][k].Do(v)
					y, f := bc[k][n].Do(x)
					z, g := ac[i][n].Do(v)
					if e != api.OK || f != api.OK || g != api.OK || !tree.Equal(y, z) {
						t.Fatalf("P1508: %s becomes %s by %s, and %s straight: %v %v %v", short(v), short(y), short(x), short(z), e, f, g)
					}
				}
			}
		}
	}
	if count < 1000 || none == 0 {
		t.Errorf("%d ways by a third schema, %d of which there is none straight: too few", count, none)
	}
}

func TestNotWhole(t *testing.T) { // P1508: where the first plan is not Whole, the ways may part: Whole says so
	a, b, c := typ(t, "message M { optional int32 a = 1; int32 b = 2; }", "M"), typ(t, "message M { int32 a = 1; reserved 2; }", "M"), typ(t, "message M { optional int32 a = 1; int32 b = 2; }", "M")
	p, q, r, ok := three(t, a, b, c)
	if !ok {
		t.Fatal("P1501: a plan is refused")
	}
	v := msg(at(1, num(0)), at(2, num(1)))
	x, _ := p.Do(v)
	y, _ := q.Do(x)
	z, _ := r.Do(v)
	if p.Whole() || !q.Whole() || !r.Whole() || !tree.Equal(y, msg()) || !tree.Equal(z, v) {
		t.Errorf("P1508: %s, %s; Whole: %v %v %v", short(y), short(z), p.Whole(), q.Whole(), r.Whole())
	}
}
