package path_test

import (
	"fmt"
	"runtime"
	"slices"
	"strings"
	"testing"
	"unsafe"

	"sigil/api"
	"sigil/bind"
	"sigil/path"
)

// lentText is a text over bytes that can be changed behind the program's back.
func lentText(s string, texts *[][]byte) string {
	b := append([]byte(s), "spare room"...)[:len(s)]
	if len(b) == 0 {
		return ""
	}
	*texts = append(*texts, b)
	return unsafe.String(&b[0], len(b))
}

// lent is a copy of a tree that can be changed so: its lists have spare room that is filled, its texts lie over bytes of which all are told.
func lent(v api.Value, texts *[][]byte) api.Value {
	v.Text = lentText(v.Text, texts)
	l := make([]api.Value, 0, len(v.List)+2)
	for _, in := range v.List {
		l = append(l, lent(in, texts))
	}
	fields := make([]api.Entry, 0, len(v.Fields)+2)
	for _, in := range v.Fields {
		fields = append(fields, at(in.Number, lent(in.Value, texts)))
	}
	v.List, v.Fields = l, fields
	for i := range 2 {
		l[:cap(l)][len(l)+i] = text("room")
		fields[:cap(fields)][len(fields)+i] = at(77, text("room"))
	}
	return v
}

// lentSteps is a copy of steps that can be changed so.
func lentSteps(l []api.Step, texts *[][]byte) []api.Step {
	out := make([]api.Step, 0, len(l)+2)
	for _, st := range l {
		k := lent(st.Key, texts)
		out = append(out, api.Step{Kind: st.Kind, Number: st.Number, Key: k})
	}
	for i := range 2 {
		out[:cap(out)][len(out)+i] = key(text("room"))
	}
	return out
}

// lentMask is a copy of a mask that can be changed so.
func lentMask(l []string, texts *[][]byte) []string {
	out := make([]string, 0, len(l)+2)
	for _, p := range l {
		out = append(out, lentText(p, texts))
	}
	out[:cap(out)][len(out)], out[:cap(out)][len(out)+1] = "room", "room"
	return out
}

// wholly tells a tree with the spare room of its lists.
func wholly(v api.Value) string {
	s := fmt.Sprintf("%d %d %q [", v.Kind, v.Num, v.Text)
	for _, in := range v.List[:cap(v.List)] {
		s += wholly(in) + ","
	}
	s += "] {"
	for _, in := range v.Fields[:cap(v.Fields)] {
		s += fmt.Sprint(in.Number, ":", wholly(in.Value), ",")
	}
	return s + "}"
}

// spoil writes over the lists of a tree, their spare room too.
func spoil(v *api.Value) {
	l, f := v.List[:cap(v.List)], v.Fields[:cap(v.Fields)]
	for i := range l {
		spoil(&l[i])
		l[i] = api.Value{Kind: 9, Num: -7, Text: "spoilt"}
	}
	for i := range f {
		spoil(&f[i].Value)
		f[i] = api.Entry{Number: -9, Value: api.Value{Kind: 9, Num: -7, Text: "spoilt"}}
	}
}

// turned turns all bits over.
func turned(l [][]byte) {
	for _, b := range l {
		for i := range b {
			b[i] ^= 0xff
		}
	}
}

// question is what all calls are handed.
type question struct {
	name  string
	m, v  api.Value
	path  string
	steps []api.Step
	mask  []string
}

// ask makes a question, right in all its parts.
func (m *maker) ask() question {
	name := pick(m, m.s.Messages()...)
	tree := m.normal(name)
	steps, v := m.way(name, tree)
	return question{name, tree, v, m.spell(name, steps), steps, m.mask(name, tree)}
}

// lent is a question that can be changed behind the program's back.
func (q question) lent(texts *[][]byte) question {
	return question{lentText(q.name, texts), lent(q.m, texts), lent(q.v, texts), lentText(q.path, texts), lentSteps(q.steps, texts), lentMask(q.mask, texts)}
}

// answers is all that the calls answer to a question.
type answers struct {
	parsed []api.Step
	text   string
	trees  []api.Value // of Get, Set, Clear, Keep, Strip
	leaves []string
	errors []api.Errno
	there  bool
}

// answered asks all calls.
func answered(s *bind.Schema, q question) answers {
	var a answers
	var e [8]api.Errno
	a.trees = make([]api.Value, 5)
	a.parsed, e[0] = path.Parse(s, q.name, q.path)
	a.text, e[1] = path.Print(s, q.name, q.steps)
	a.trees[0], a.there, e[2] = path.Get(s, q.name, q.m, q.path)
	a.trees[1], e[3] = path.Set(s, q.name, q.m, q.path, q.v)
	a.trees[2], e[4] = path.Clear(s, q.name, q.m, q.path)
	a.trees[3], e[5] = path.Keep(s, q.name, q.m, q.mask)
	a.trees[4], e[6] = path.Strip(s, q.name, q.m, q.mask)
	a.leaves, e[7] = path.Leaves(s, q.name, q.m)
	a.errors = e[:]
	return a
}

// told tells answers; nil and empty lists are the same.
func (a answers) told() string { return fmt.Sprintf("%q", fmt.Sprintf("%+v", a)) }

func TestNotChanged(t *testing.T) { // P2: what is handed in is not changed, its spare room neither; nor is that room seen
	for seed := range int64(600) {
		m := newMaker(seed)
		q := m.ask()
		want := answered(m.s, q).told()
		var texts [][]byte
		in := q.lent(&texts)
		room := fmt.Sprintf("%q", whollyAll(texts))
		trees, steps, mask := wholly(in.m)+wholly(in.v), fmt.Sprintf("%+v", in.steps[:cap(in.steps)]), fmt.Sprintf("%q", in.mask[:cap(in.mask)])
		if got := answered(m.s, in).told(); got != want {
			t.Fatalf("P2: with spare room: %s, want %s", got, want)
		}
		if wholly(in.m)+wholly(in.v) != trees || fmt.Sprintf("%+v", in.steps[:cap(in.steps)]) != steps || fmt.Sprintf("%q", in.mask[:cap(in.mask)]) != mask || fmt.Sprintf("%q", whollyAll(texts)) != room {
			t.Fatalf("P2: what was handed in is changed (seed %d)", seed)
		}
	}
}

// whollyAll are bytes with their spare room.
func whollyAll(l [][]byte) []string {
	var out []string
	for _, b := range l {
		out = append(out, string(b[:cap(b)]))
	}
	return out
}

func TestNotKept(t *testing.T) { // P2: who changes what was handed in changes no answer
	for seed := range int64(600) {
		m := newMaker(seed)
		q := m.ask()
		want := answered(m.s, q).told()
		var texts [][]byte
		in := q.lent(&texts)
		got := answered(m.s, in)
		spoil(&in.m)
		spoil(&in.v)
		for i := range in.steps {
			spoil(&in.steps[i].Key)
		}
		turned(texts)
		if got.told() != want {
			t.Fatalf("P2: an answer is changed by who changes what was handed in: %s, want %s", got.told(), want)
		}
		if again := answered(m.s, q).told(); again != want {
			t.Fatalf("P3: asked again: %s, want %s", again, want)
		}
	}
}

// stretch is a piece of memory.
type stretch struct{ from, to uintptr }

// stretchOf is the memory of a list, its spare room too.
func stretchOf[T any](l []T) stretch {
	var one T
	from := uintptr(unsafe.Pointer(unsafe.SliceData(l)))
	return stretch{from, from + uintptr(cap(l))*unsafe.Sizeof(one)}
}

// stretchOfText is the memory of a text.
func stretchOfText(s string) stretch {
	return stretchOf(unsafe.Slice(unsafe.StringData(s), len(s)))
}

// stretches are the memory of all lists and texts of a tree.
func stretches(v api.Value) []stretch {
	l := []stretch{stretchOf(v.List), stretchOf(v.Fields), stretchOfText(v.Text)}
	for _, in := range v.List {
		l = append(l, stretches(in)...)
	}
	for _, in := range v.Fields {
		l = append(l, stretches(in.Value)...)
	}
	return l
}

// stretches are the memory of all lists and texts of the answers.
func (a answers) stretches() []stretch {
	l := []stretch{stretchOf(a.parsed), stretchOfText(a.text), stretchOf(a.leaves)}
	for _, st := range a.parsed {
		l = append(l, stretches(st.Key)...)
	}
	for _, v := range a.trees {
		l = append(l, stretches(v)...)
	}
	for _, p := range a.leaves {
		l = append(l, stretchOfText(p))
	}
	return l
}

func TestNotShared(t *testing.T) { // P2: no two lists and texts of the answers share memory, their spare room neither; nor do they share it with what was handed in
	for seed := range int64(400) {
		m := newMaker(seed)
		q := m.ask()
		var texts [][]byte
		in := q.lent(&texts)
		a, b := answered(m.s, in), answered(m.s, in)
		l := slices.Concat(a.stretches(), b.stretches(), stretches(in.m), stretches(in.v), []stretch{stretchOf(in.steps), stretchOf(in.mask)})
		for _, st := range in.steps {
			l = append(l, stretches(st.Key)...)
		}
		l = append(l, stretchOfText(in.path), stretchOfText(in.name))
		// One byte alone may be a text of the library's own, which never changes.
		l = slices.DeleteFunc(l, func(s stretch) bool { return s.to-s.from <= 1 })
		slices.SortFunc(l, func(a, b stretch) int { return int(a.from) - int(b.from) })
		for i := 1; i < len(l); i++ {
			if l[i-1].to > l[i].from {
				t.Fatalf("P2: two lists or texts share memory (seed %d)", seed)
			}
		}
		runtime.KeepAlive([]any{a, b, in, texts})
	}
}

func TestSharedIn(t *testing.T) { // P2: a tree whose parts share their memory is answered as one whose parts don't
	s := wideSchema()
	in := msg(at(3, num(3)), at(repeated+3, list(num(1), num(2))))
	m := msg(at(17, in), at(repeated+17, list(in, in)), at(mapped+17, dict(kv("a", in), kv("b", in))))
	v, e := path.Set(s, "w.W", m, "r_17[2]", in)
	if e != api.OK {
		t.Fatal(e)
	}
	want := msg(at(17, in), at(repeated+17, list(in, in, in)), at(mapped+17, dict(kv("a", in), kv("b", in))))
	if !same(v, want) {
		t.Errorf("P1307: %s, want %s", short(v), short(want))
	}
	spoil(&v.Fields[0].Value)
	spoil(&v.Fields[1].Value.List[2])
	v.Fields[0].Value, v.Fields[1].Value.List[2] = in, in
	if !same(v, want) {
		t.Errorf("P2: who writes over a part of an answer changes another: %s", short(v))
	}
}

func TestWrittenOver(t *testing.T) { // P2: who writes over an answer, its spare room too, changes no other answer
	for seed := range int64(300) {
		m := newMaker(seed)
		q := m.ask()
		kept := answered(m.s, q)
		before := kept.told()
		a := answered(m.s, q)
		for i := range a.trees {
			spoil(&a.trees[i])
		}
		for i := range a.parsed[:cap(a.parsed)] {
			a.parsed[:cap(a.parsed)][i] = api.Step{Kind: 9}
		}
		for i := range a.leaves[:cap(a.leaves)] {
			a.leaves[:cap(a.leaves)][i] = "spoilt"
		}
		if again := answered(m.s, q); kept.told() != before || again.told() != before {
			t.Fatalf("P2: what is done with one answer is seen in another: %s, want %s", again.told(), before)
		}
	}
}

func TestNilAndEmpty(t *testing.T) { // P2: nil and empty lists are the same
	s := smallSchema()
	empty := api.Value{Kind: api.VMessage, Fields: []api.Entry{}, List: []api.Value{}}
	number := api.Value{Kind: api.VNum, Num: 1, List: []api.Value{}, Fields: []api.Entry{}}
	gets(t, s, "p.M", one(7, empty), "g", msg())
	gets(t, s, "p.M", one(1, number), "a", num(1))
	sets(t, s, "p.M", empty, "a", number, one(1, num(1)))
	sets(t, s, "p.M", empty, "c", api.Value{Kind: api.VList, List: []api.Value{}, Fields: []api.Entry{}}, msg())
	sets(t, s, "p.M", empty, "", empty, msg())
	clears(t, s, "p.M", one(7, empty), "g", msg())
	keeps(t, s, "p.M", one(7, empty), one(7, msg()), "g.a")
	keeps(t, s, "p.M", one(7, empty), msg(), []string{}...)
	tells(t, s, "p.M", empty, "")
	prints(t, s, "p.M", "", []api.Step{}...)
}

func TestLittleKept(t *testing.T) { // P2: an answer holds no more than what is in it, however long the path or large the tree was
	s := smallSchema()
	used := func() uint64 {
		var m runtime.MemStats
		runtime.GC()
		runtime.ReadMemStats(&m)
		return m.HeapAlloc
	}
	large := text(strings.Repeat("x", 1<<20))
	before := used()
	var kept []any
	for range 100 {
		m := msg(at(2, text(strings.Clone(large.Text))), at(4, dict(kv("key", one(2, text("abc"))))))
		v, _, _ := path.Get(s, "p.M", m, `d["key"]`)
		steps, _ := path.Parse(s, "p.M", `d["`+strings.Repeat("g", 500)+`"].d["key"]`)
		stripped, _ := path.Strip(s, "p.M", m, []string{"b"})
		kept = append(kept, v, steps[2:], stripped)
	}
	if after := used(); after > before+10<<20 {
		t.Errorf("P2: 100 small answers hold %d bytes", after-before)
	}
	runtime.KeepAlive(kept)
}
