package view_test

import (
	"bytes"
	"fmt"
	"testing"

	"sigil/api"
	"sigil/loose"
	"sigil/path"
)

// agrees looks whether a view answers at a path what package path says of the tree that package loose read.
func (g glass) agrees(t *testing.T, m api.Value, steps []api.Step) {
	t.Helper()
	p, e := path.Print(g.s, g.name, steps)
	if e != api.OK {
		return
	}
	want, there, e := path.Get(g.s, g.name, m, p)
	if e != api.OK {
		t.Fatalf("path.Get(%.100q): %v", p, e)
	}
	got, size, content := any(nil), any(noMany), any(noMessage)
	if there {
		got = want
	}
	f := leads(g.s, g.name, steps)
	many := f.Card == api.CRepeated || f.Card == api.CMap
	if many {
		size = len(want.List)
	}
	if f.Type == api.TMessage && !many {
		content = nil
		if there {
			content = g.standing(t, f.Of, p, want)
		}
	}
	g.asked(t, p, there, got, size, content)
}

// standing are the bytes that a view answers of a message: some that are read as that one.
func (g glass) standing(t *testing.T, of, p string, want api.Value) any {
	t.Helper()
	b, ok, e := g.Bytes(p)
	if !ok || e != api.OK {
		t.Errorf("P2109: %s: Bytes(%.100q): %v, %v", some(g.b), p, ok, e)
	}
	if v, _, e := loose.Decode(g.s, of, b); e != api.OK || !same(v, want) {
		t.Errorf("P2109: %s: Bytes(%.100q) is read as %s, %v, want %s", some(g.b), p, short(v), e, short(want))
	}
	return string(b)
}

// cut looks whether a view within answers what the longer path answers, wherever a path is cut behind a message.
func (g glass) cut(t *testing.T, steps []api.Step) {
	t.Helper()
	whole, e := path.Print(g.s, g.name, steps)
	if e != api.OK {
		return
	}
	for i := range len(steps) + 1 {
		f := leads(g.s, g.name, steps[:i])
		if f.Type != api.TMessage || f.Card == api.CRepeated || f.Card == api.CMap {
			continue
		}
		first := pathOf(t, g, steps[:i])
		has, e := g.Has(first)
		in, ok, why := g.At(first)
		if e != why || ok != has || (in != nil) != ok {
			t.Errorf("P2109: %s: At(%.100q): %v, %v, Has says %v, %v", some(g.b), first, ok, why, has, e)
		}
		if in == nil {
			continue
		}
		v := glass{in, g.s, f.Of, nil}
		rest := pathOf(t, v, steps[i:])
		if got, want := tellsAll(v, rest), tellsAll(g, whole); got != want {
			t.Errorf("P2109: %s: at %.100q a view says of %.100q: %.300s, the longer path: %.300s", some(g.b), first, rest, got, want)
		}
	}
}

// tellsAll is all that the questions answer at a path.
func tellsAll(g glass, p string) string {
	var l []any
	has, e := g.Has(p)
	l = append(l, has, e)
	v, ok, e := g.Get(p)
	l = append(l, v, ok, e)
	n, e := g.Len(p)
	l = append(l, n, e)
	b, ok, e := g.Bytes(p)
	l = append(l, b, ok, e)
	in, ok, e := g.At(p)
	l = append(l, ok, e)
	if in != nil {
		b, ok, e = in.Bytes("")
		l = append(l, b, ok, e)
	}
	all, e := g.Each(p)
	l = append(l, all != nil, e)
	if all != nil {
		l = append(l, told(all, -1))
	}
	return fmt.Sprint(l...)
}

func TestSameAsTheTree(t *testing.T) { // P2109: where the bytes read whole, every question answers what package path tells of the tree
	t.Parallel()
	q := ofWide()
	for seed := range int64(1500) {
		for _, name := range q.s.Messages() {
			m := newMaker(seed)
			b := m.message(name, 1+m.Intn(5))
			if m.Intn(3) == 0 {
				b = m.mangled(b)
			}
			v, _, e := loose.Decode(q.s, name, b)
			if e != api.OK {
				continue
			}
			g := open(t, q.s, name, b)
			for range 8 {
				steps := m.steps(q, name, b)
				g.agrees(t, v, steps)
				g.cut(t, steps)
			}
		}
	}
}

func TestSameOfEveryPath(t *testing.T) { // P2109: of all leaves of the tree, and of all that they lie in
	t.Parallel()
	q := ofWide()
	for seed := range int64(300) {
		m := newMaker(seed)
		b := m.message("w.W", 4)
		v, _, e := loose.Decode(q.s, "w.W", b)
		if e != api.OK {
			t.Fatal(e)
		}
		g := open(t, q.s, "w.W", b)
		leaves, _ := path.Leaves(q.s, "w.W", v)
		for _, p := range leaves {
			steps := parsed(t, g, p)
			for i := range steps {
				g.agrees(t, v, steps[:i])
			}
			g.agrees(t, v, steps)
		}
	}
}

func TestCutBroken(t *testing.T) { // P2106: of broken messages too, a view answers what the longer path answers, where this meets nothing ahead of it
	t.Parallel()
	q := ofWide()
	for seed := range int64(600) {
		m := newMaker(seed)
		m.rare = 40
		b := m.message("w.W", 5)
		g := open(t, q.s, "w.W", b)
		for range 6 {
			g.cut(t, m.steps(q, "w.W", b))
		}
	}
}

// negatives are so many numbers of a list, each of five bytes that mean ten.
func negatives(n int) []byte {
	return record(repeated+api.TInt32, bytes.Repeat(row("ff ff ff ff 0f"), n))
}

func TestTooLargeAsATree(t *testing.T) { // P2109: where package loose answers ErrSize, no question has an error
	n := 150000
	b := rows(negatives(n), record(api.TMessage, negatives(n/3), record(api.TString, []byte("x"))))
	if _, _, e := loose.Decode(wideSchema(), "w.W", b); e != api.ErrSize {
		t.Fatalf("Decode: %v", e)
	}
	v := open(t, wideSchema(), "w.W", b)
	all := list()
	for range n {
		all.List = append(all.List, num(-1))
	}
	third := list(all.List[:n/3]...)
	inner := msg(at(api.TString, text("x")), at(repeated+api.TInt32, third))
	v.many(t, "r3", all, n)
	v.scalar(t, "r3[149999]", num(-1))
	v.scalar(t, "r3[150000]", nil)
	v.scalar(t, "s17.s14", text("x"))
	v.many(t, "s17.r3", third, n/3)
	for p, want := range map[string]api.Value{"s17": inner, "": msg(at(api.TMessage, inner), at(repeated+api.TInt32, all))} {
		if got, ok, e := v.Get(p); !ok || e != api.OK || !same(got, want) {
			t.Errorf("P2109: Get(%q): %v, %v", p, ok, e)
		}
	}
	// So too a message within that is too large by itself, and pairs whose keys and values were not written.
	b = record(ofV, record(2, negatives(200000)))
	v = open(t, wideSchema(), "w.W", b)
	if got, ok, e := v.Get("v.w.r3"); !ok || e != api.OK || len(got.List) != 200000 {
		t.Errorf("P2109: Get(v.w.r3): %d values, %v, %v", len(got.List), ok, e)
	}
	if got, ok, e := v.Get("v"); !ok || e != api.OK || len(got.Fields) != 1 {
		t.Errorf("P2109: Get(v): %s, %v, %v", short(len(got.Fields)), ok, e)
	}
	var pairs []byte
	n = 0
	for ; len(pairs) < 1<<20-16; n++ {
		pairs = append(pairs, record(keyed+api.TInt32, tag(1, 0), varint(n+1<<14))...)
	}
	if _, _, e := loose.Decode(wideSchema(), "w.W", pairs); e != api.ErrSize {
		t.Fatalf("Decode: %v", e)
	}
	v = open(t, wideSchema(), "w.W", pairs)
	if got, ok, e := v.Get(""); !ok || e != api.OK || len(got.Fields) != 1 || len(got.Fields[0].Value.List) != n {
		t.Errorf("P2109: Get of %d pairs: %v, %v", n, ok, e)
	}
	if k, e := v.Len("k3"); k != n || e != api.OK {
		t.Errorf("P2109: Len of %d pairs: %d, %v", n, k, e)
	}
}
