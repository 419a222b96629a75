package diff_test

import (
	"cmp"
	"fmt"
	"runtime"
	"slices"
	"strings"
	"testing"
	"unsafe"

	"sigil/api"
	"sigil/bind"
	"sigil/diff"
)

// lentText is a text over bytes that can be changed behind the program's back.
func lentText(s string, texts *[][]byte) string {
	b := append([]byte(s), "spare room"...)[:len(s)]
	if len(b) == 0 {
		return ""
	}
	*texts = append(*texts, b)
	return unsafe.String(&b[0], len(b))
}

// lent is a copy of a tree that can be changed so: its lists have spare room that is filled, its texts lie over bytes of which all are told.
func lent(v api.Value, texts *[][]byte) api.Value {
	v.Text = lentText(v.Text, texts)
	v.List = lentList(v.List, texts)
	fields := make([]api.Entry, 0, len(v.Fields)+2)
	for _, in := range v.Fields {
		fields = append(fields, at(in.Number, lent(in.Value, texts)))
	}
	for i := range 2 {
		fields[:cap(fields)][len(fields)+i] = at(77, text("room"))
	}
	v.Fields = fields
	return v
}

// lentList is a copy of a list that can be changed so.
func lentList(l []api.Value, texts *[][]byte) []api.Value {
	out := make([]api.Value, 0, len(l)+2)
	for _, in := range l {
		out = append(out, lent(in, texts))
	}
	for i := range 2 {
		out[:cap(out)][len(out)+i] = text("room")
	}
	return out
}

// lentEdits is a copy of edits that can be changed so.
func lentEdits(l []api.Edit, texts *[][]byte) []api.Edit {
	out := make([]api.Edit, 0, len(l)+2)
	for _, edit := range l {
		edit.Path = lentText(edit.Path, texts)
		edit.Values = lentList(edit.Values, texts)
		// A right edit has no values where its kind has none: but room for some.
		out = append(out, edit)
	}
	for i := range 2 {
		out[:cap(out)][len(out)+i] = set("room", text("room"))
	}
	return out
}

// wholly tells a tree with the spare room of its lists.
func wholly(v api.Value) string {
	s := fmt.Sprintf("%d %d %q [", v.Kind, v.Num, v.Text)
	for _, in := range v.List[:cap(v.List)] {
		s += wholly(in) + ","
	}
	s += "] {"
	for _, in := range v.Fields[:cap(v.Fields)] {
		s += fmt.Sprint(in.Number, ":", wholly(in.Value), ",")
	}
	return s + "}"
}

// whollyEdits tells edits with all their spare room.
func whollyEdits(l []api.Edit) string {
	s := ""
	for _, edit := range l[:cap(l)] {
		s += fmt.Sprintf("%d %q %d %d %s\n", edit.Kind, edit.Path, edit.At, edit.Out, wholly(list(edit.Values[:cap(edit.Values)]...)))
	}
	return s
}

// whollyTexts are bytes with their spare room.
func whollyTexts(l [][]byte) string {
	s := ""
	for _, b := range l {
		s += fmt.Sprintf("%q ", b[:cap(b)])
	}
	return s
}

// spoil writes over the lists of a tree, their spare room too.
func spoil(v *api.Value) {
	spoilList(v.List)
	f := v.Fields[:cap(v.Fields)]
	for i := range f {
		spoil(&f[i].Value)
		f[i] = api.Entry{Number: -9, Value: api.Value{Kind: 9, Num: -7, Text: "spoilt"}}
	}
}

func spoilList(l []api.Value) {
	l = l[:cap(l)]
	for i := range l {
		spoil(&l[i])
		l[i] = api.Value{Kind: 9, Num: -7, Text: "spoilt"}
	}
}

// spoilEdits does so for edits.
func spoilEdits(l []api.Edit) {
	l = l[:cap(l)]
	for i := range l {
		spoilList(l[i].Values)
		l[i] = api.Edit{Kind: 9, Path: "spoilt", At: -7, Out: -7}
	}
}

// turned turns all bits over.
func turned(l [][]byte) {
	for _, b := range l {
		for i := range b {
			b[i] ^= 0xff
		}
	}
}

// question is what the calls are handed.
type question struct {
	name string
	a, b api.Value
	l    []api.Edit
}

// ask makes a question, right in all its parts.
func (m *maker) ask() question {
	name := pick(m, m.s.Messages()...)
	a, b := m.both(name)
	return question{name, a, b, m.edits(name, a)}
}

// lent is a question that can be changed behind the program's back.
func (q question) lent(texts *[][]byte) question {
	return question{lentText(q.name, texts), lent(q.a, texts), lent(q.b, texts), lentEdits(q.l, texts)}
}

// wholly tells a question with all its spare room.
func (q question) wholly() string {
	return q.name + wholly(q.a) + wholly(q.b) + whollyEdits(q.l)
}

// answers is all that the calls answer to a question.
type answers struct {
	edits, back []api.Edit
	tree        api.Value
	errors      [3]api.Errno
}

// answered asks all calls.
func answered(s *bind.Schema, q question) answers {
	var a answers
	a.edits, a.errors[0] = diff.Trees(s, q.name, q.a, q.b)
	a.tree, a.errors[1] = diff.Apply(s, q.name, q.a, q.l)
	a.back, a.errors[2] = diff.Back(s, q.name, q.a, q.l)
	return a
}

// told tells answers; nil and empty lists are the same.
func (a answers) told() string {
	return fmt.Sprintf("%q", fmt.Sprintf("%+v", a))
}

func TestNotChanged(t *testing.T) { // P2: what is handed in is not changed, its spare room neither; nor is that room seen
	for seed := range int64(800) {
		m := newMaker(seed)
		m.rare = pick(m, 0, 0, 3)
		q := m.ask()
		want := answered(m.s, q).told()
		var texts [][]byte
		in := q.lent(&texts)
		before, room := in.wholly(), whollyTexts(texts)
		if got := answered(m.s, in).told(); got != want {
			t.Fatalf("P2: with spare room: %s, want %s", got, want)
		}
		if in.wholly() != before || whollyTexts(texts) != room {
			t.Fatalf("P2: what was handed in is changed (seed %d)", seed)
		}
	}
}

func TestNotKept(t *testing.T) { // P2: who changes what was handed in changes no answer
	for seed := range int64(800) {
		m := newMaker(seed)
		q := m.ask()
		want := answered(m.s, q).told()
		var texts [][]byte
		in := q.lent(&texts)
		got := answered(m.s, in)
		spoil(&in.a)
		spoil(&in.b)
		spoilEdits(in.l)
		turned(texts)
		if got.told() != want {
			t.Fatalf("P2: an answer is changed by who changes what was handed in: %s, want %s", got.told(), want)
		}
		if again := answered(m.s, q).told(); again != want {
			t.Fatalf("P3: asked again: %s, want %s", again, want)
		}
	}
}

// stretch is a piece of memory.
type stretch struct{ from, to uintptr }

// stretchOf is the memory of a list, its spare room too.
func stretchOf[T any](l []T) stretch {
	var one T
	from := uintptr(unsafe.Pointer(unsafe.SliceData(l)))
	return stretch{from, from + uintptr(cap(l))*unsafe.Sizeof(one)}
}

// stretchOfText is the memory of a text.
func stretchOfText(s string) stretch {
	return stretchOf(unsafe.Slice(unsafe.StringData(s), len(s)))
}

// stretches are the memory of all lists and texts of a tree.
func stretches(v api.Value) []stretch {
	l := []stretch{stretchOf(v.List), stretchOf(v.Fields), stretchOfText(v.Text)}
	for _, in := range v.List {
		l = append(l, stretches(in)...)
	}
	for _, in := range v.Fields {
		l = append(l, stretches(in.Value)...)
	}
	return l
}

// editStretches are the memory of edits.
func editStretches(edits []api.Edit) []stretch {
	l := []stretch{stretchOf(edits)}
	for _, edit := range edits {
		l = append(l, stretchOf(edit.Values), stretchOfText(edit.Path))
		for _, v := range edit.Values {
			l = append(l, stretches(v)...)
		}
	}
	return l
}

// disjoint says whether no two pieces of memory meet. One byte alone may be a text of the library's own, which never changes.
func disjoint(l []stretch) bool {
	l = slices.DeleteFunc(l, func(p stretch) bool { return p.to-p.from <= 1 })
	slices.SortFunc(l, func(p, q stretch) int { return cmp.Compare(p.from, q.from) })
	for i := 1; i < len(l); i++ {
		if l[i].from < l[i-1].to {
			return false
		}
	}
	return true
}

func TestNewMemory(t *testing.T) { // P2: answers share no memory with what was handed in, nor with one another, nor in themselves
	for seed := range int64(600) {
		m := newMaker(seed)
		q := m.ask()
		var texts [][]byte
		in := q.lent(&texts)
		handed := slices.Concat(stretches(in.a), stretches(in.b), editStretches(in.l))
		if !disjoint(slices.Clone(handed)) {
			t.Fatal("the question shares memory in itself")
		}
		first, second := answered(m.s, in), answered(m.s, in)
		all := handed
		for _, a := range []answers{first, second} {
			all = slices.Concat(all, editStretches(a.edits), editStretches(a.back), stretches(a.tree))
		}
		if !disjoint(all) {
			t.Fatalf("P2: memory is shared (seed %d)", seed)
		}
		runtime.KeepAlive([]any{first, second, in, texts})
	}
}

func TestChangesOwned(t *testing.T) { // P2: who changes an answer of Schemas changes no other one, nor the schemas
	for seed := range int64(300) {
		m := newMaker(seed)
		s, u, ok := m.schemas()
		if !ok {
			continue
		}
		before := fmt.Sprint(s.Texts(), u.Texts(), alike(s), alike(u))
		l := diff.Schemas(s, u)
		want := slices.Clone(l)
		l = l[:cap(l)]
		for i := range l {
			l[i] = api.Change{Kind: 9, Type: "spoilt", Old: "spoilt", New: "spoilt"}
		}
		if again := diff.Schemas(s, u); !slices.Equal(again, want) {
			t.Fatalf("P2: %+v, want %+v", again, want)
		}
		if fmt.Sprint(s.Texts(), u.Texts(), alike(s), alike(u)) != before {
			t.Fatal("P2: a schema is changed")
		}
	}
}

func TestSayOwned(t *testing.T) { // P2: words are new memory
	for kind := range 9 {
		var texts [][]byte
		c := api.Change{Kind: kind, Type: lentText("type", &texts), Number: 3, Old: lentText("old", &texts), New: lentText("new", &texts)}
		room := whollyTexts(texts)
		got := diff.Say(c)
		if whollyTexts(texts) != room {
			t.Errorf("P2: what was handed in is changed: %s", whollyTexts(texts))
		}
		turned(texts)
		says(t, api.Change{Kind: kind, Type: "type", Number: 3, Old: "old", New: "new"}, got)
	}
}

func TestSharedIn(t *testing.T) { // P2: trees and edits whose parts share their memory are answered as those whose parts don't
	s := wideSchema()
	in := msg(at(3, num(3)), at(repeated+3, nums(1, 2)))
	a := msg(at(17, in), at(repeated+17, list(in, in)))
	b := msg(at(optional+17, in), at(repeated+17, list(in, in, in, in)), at(mapped+17, dict(kv("a", in), kv("b", in))))
	l, e := diff.Trees(s, "w.W", a, b)
	want := []api.Edit{drop("s_17"), set("o_17", in), splice("r_17", 2, 0, in, in), set("m_17", dict(kv("a", in), kv("b", in)))}
	if e != api.OK || !sameEdits(l, want) {
		t.Fatalf("P1902: %s, %v", shortEdits(l), e)
	}
	if !disjoint(slices.Concat(editStretches(l), stretches(in))) {
		t.Error("P2: memory is shared")
	}
	v, e := diff.Apply(s, "w.W", a, want)
	if e != api.OK || !same(v, b) || !disjoint(slices.Concat(stretches(v), stretches(in))) {
		t.Errorf("P2: %s, %v", short(v), e)
	}
	// Edits that are one another's memory, and the tree's.
	again := []api.Edit{splice("r_17", 0, 1, a.Fields[1].Value.List...), {Kind: api.ESplice, Path: "r_17", Values: a.Fields[1].Value.List[:1:2]}}
	if v, e = diff.Apply(s, "w.W", a, again); e != api.OK || !same(v, msg(at(17, in), at(repeated+17, list(in, in, in, in)))) {
		t.Errorf("P1903: %s, %v", short(v), e)
	}
	if !same(a, msg(at(17, in), at(repeated+17, list(in, in)))) {
		t.Error("P2: what was handed in is changed")
	}
	if v, e = diff.Apply(s, "w.W", a, nil); e != api.OK || !same(v, a) || !disjoint(slices.Concat(stretches(v), stretches(in))) {
		t.Errorf("P2: of no edits: %s, %v", short(v), e)
	}
}

func TestWrittenOver(t *testing.T) { // P2: who writes over an answer, its spare room too, changes no other answer
	for seed := range int64(400) {
		m := newMaker(seed)
		q := m.ask()
		kept := answered(m.s, q)
		before := kept.told()
		a := answered(m.s, q)
		spoil(&a.tree)
		spoilEdits(a.edits)
		spoilEdits(a.back)
		if again := answered(m.s, q); kept.told() != before || again.told() != before {
			t.Fatalf("P2: what is done with one answer is seen in another: %s, want %s", again.told(), before)
		}
	}
}

func TestNilAndEmpty(t *testing.T) { // P2: nil and empty lists are the same
	s := smallSchema()
	empty := api.Value{Kind: api.VMessage, Fields: []api.Entry{}, List: []api.Value{}}
	number := api.Value{Kind: api.VNum, Num: 1, List: []api.Value{}, Fields: []api.Entry{}}
	turns(t, s, "p.M", empty, msg())
	turns(t, s, "p.M", one(7, empty), one(7, msg()))
	turns(t, s, "p.M", one(1, num(1)), one(1, number))
	turns(t, s, "p.M", one(3, nums(1, 2)), one(3, list(number, num(2))))
	turns(t, s, "p.M", empty, one(7, empty), set("g", msg()))
	applies(t, s, "p.M", empty, msg(), []api.Edit{}...)
	applies(t, s, "p.M", one(1, number), msg(), api.Edit{Kind: api.EClear, Path: "a", Values: []api.Value{}})
	applies(t, s, "p.M", one(3, nums(1, 2)), one(3, nums(1)), api.Edit{Kind: api.ESplice, Path: "c", At: 1, Out: 1, Values: []api.Value{}})
	refuses(t, s, "p.M", empty, api.ErrEdit, api.Edit{Kind: api.ESet, Path: "a", Values: []api.Value{}})
}

func TestLittleKept(t *testing.T) { // P2: an answer holds no more than what is in it, however large the trees were
	s := smallSchema()
	used := func() uint64 {
		var m runtime.MemStats
		runtime.GC()
		runtime.ReadMemStats(&m)
		return m.HeapAlloc
	}
	before := used()
	var kept []any
	for range 100 {
		large := strings.Repeat("x", 1<<20)
		a := msg(at(2, text(large)), at(4, dict(kv(large[:100], msg()), kv(large[:101], msg()))))
		b := msg(at(2, text(large)), at(4, dict(kv(large[:101], one(2, text(large[:7]))))))
		l, e := diff.Trees(s, "p.M", a, b)
		v, f := diff.Apply(s, "p.M", a, []api.Edit{drop("b"), set("b", text(large[:9]))})
		back, g := diff.Back(s, "p.M", a, []api.Edit{drop(`d["` + large[:100] + `"]`)})
		if e != api.OK || f != api.OK || g != api.OK || len(l) != 2 || len(back) != 1 {
			t.Fatal(e, f, g)
		}
		kept = append(kept, l, v, back)
	}
	if after := used(); after > before+10<<20 {
		t.Errorf("P2: small answers hold %d bytes", after-before)
	}
	runtime.KeepAlive(kept)
}
