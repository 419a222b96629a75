package project_test

import (
	"fmt"
	"runtime"
	"slices"
	"strings"
	"testing"
	"unsafe"

	"sigil/api"
	"sigil/bind"
	"sigil/project"
)

// lentText is a text over bytes that can be changed behind the program's back.
func lentText(s string, texts *[][]byte) string {
	b := append([]byte(s), "spare room"...)[:len(s)]
	if len(b) == 0 {
		return ""
	}
	*texts = append(*texts, b)
	return unsafe.String(&b[0], len(b))
}

// lent is a copy of a tree that can be changed so: its lists have spare room that is filled, its texts lie over bytes of which all are told.
func lent(v api.Value, texts *[][]byte) api.Value {
	v.Text = lentText(v.Text, texts)
	l := make([]api.Value, 0, len(v.List)+2)
	for _, in := range v.List {
		l = append(l, lent(in, texts))
	}
	fields := make([]api.Entry, 0, len(v.Fields)+2)
	for _, in := range v.Fields {
		fields = append(fields, at(in.Number, lent(in.Value, texts)))
	}
	v.List, v.Fields = l, fields
	for i := range 2 {
		l[:cap(l)][len(l)+i] = text("room")
		fields[:cap(fields)][len(fields)+i] = at(77, text("room"))
	}
	return v
}

// wholly tells a tree with the spare room of its lists.
func wholly(v api.Value) string {
	s := fmt.Sprintf("%d %d %q [", v.Kind, v.Num, v.Text)
	for _, in := range v.List[:cap(v.List)] {
		s += wholly(in) + ","
	}
	s += "] {"
	for _, in := range v.Fields[:cap(v.Fields)] {
		s += fmt.Sprint(in.Number, ":", wholly(in.Value), ",")
	}
	return s + "}"
}

// spoil writes over the lists of a tree, their spare room too.
func spoil(v *api.Value) {
	l, f := v.List[:cap(v.List)], v.Fields[:cap(v.Fields)]
	for i := range l {
		spoil(&l[i])
		l[i] = api.Value{Kind: 9, Num: -7, Text: "spoilt"}
	}
	for i := range f {
		spoil(&f[i].Value)
		f[i] = api.Entry{Number: -9, Value: api.Value{Kind: 9, Num: -7, Text: "spoilt"}}
	}
}

// turned turns all bits over.
func turned(l [][]byte) {
	for _, b := range l {
		for i := range b {
			b[i] ^= 0xff
		}
	}
}

// ask makes both calls that are handed a tree; it tells their answers too.
func ask(p *project.Plan, v api.Value) (api.Value, []string, string) {
	got, e := p.Do(v)
	l, f := p.Lost(v)
	return got, l, fmt.Sprintf("%s %v %q %v", spelled(got), e, l, f)
}

func TestNotChanged(t *testing.T) { // P2: what is handed in is not changed, its spare room neither; nor is that room seen
	for i, w := range someWays(t, 300) {
		m := newMaker(int64(i))
		for range 3 {
			v := m.normal(t, w.from, w.wrote)
			if m.often(4) {
				v = m.broken(v)
			}
			_, _, want := ask(w.plan(t), v)
			var texts [][]byte
			in := lent(v, &texts)
			before := wholly(in)
			if _, _, got := ask(w.plan(t), in); got != want {
				t.Fatalf("P2: with spare room: %s, want %s", got, want)
			}
			if wholly(in) != before {
				t.Fatalf("P2: what was handed in is changed: %s, it was %s", wholly(in), before)
			}
		}
	}
}

func TestNotKept(t *testing.T) { // P2: who changes what was handed in, names too, changes no answer, nor what is answered later
	for i, w := range someWays(t, 300) {
		m := newMaker(int64(i))
		var names [][]byte
		p, e := project.New(w.from, lentText(w.wrote, &names), w.to, lentText(w.reads, &names))
		if e != api.OK {
			t.Fatal(e)
		}
		turned(names)
		for range 3 {
			v := m.normal(t, w.from, w.wrote)
			_, _, want := ask(w.plan(t), v)
			var texts [][]byte
			in := lent(v, &texts)
			got, e := p.Do(in)
			l, f := p.Lost(in)
			spoil(&in)
			turned(texts)
			if told := fmt.Sprintf("%s %v %q %v", spelled(got), e, l, f); told != want {
				t.Fatalf("P2: an answer is changed by who changes what was handed in: %s, want %s", told, want)
			}
			if _, _, again := ask(p, v); again != want {
				t.Fatalf("P2: asked again: %s, want %s", again, want)
			}
		}
	}
}

func TestNameOfAnother(t *testing.T) { // P2: the memory of a name that was handed in later says another type's name
	from := load(t, "message A { B b = 1; int32 x = 2; } message B { A b = 1; string y = 3; }")
	to := load(t, "message A { B b = 1; repeated int64 x = 2; } message B { A b = 1; reserved 3; }")
	wrote, reads := []byte("A"), []byte("A")
	p, e := project.New(from, unsafe.String(&wrote[0], 1), to, unsafe.String(&reads[0], 1))
	if e != api.OK {
		t.Fatal(e)
	}
	v := msg(at(1, msg(at(1, one(2, num(1))), at(3, text("y")))), at(2, num(2)))
	want := msg(at(1, one(1, one(2, list(num(1))))), at(2, list(num(2))))
	for _, name := range []string{"B", "A", "?"} {
		copy(wrote, name)
		copy(reads, name)
		way{from, "A", to, "A"}.makes(t, p, v, want, "1.3")
		refuses(t, p, one(3, text("y")), api.ErrType)
	}
	runtime.KeepAlive([][]byte{wrote, reads})
}

// stretch is a piece of memory.
type stretch struct{ from, to uintptr }

// stretchOf is the memory of a list, its spare room too.
func stretchOf[T any](l []T) stretch {
	var one T
	from := uintptr(unsafe.Pointer(unsafe.SliceData(l)))
	return stretch{from, from + uintptr(cap(l))*unsafe.Sizeof(one)}
}

// stretchOfText is the memory of a text.
func stretchOfText(s string) stretch {
	return stretchOf(unsafe.Slice(unsafe.StringData(s), len(s)))
}

// stretches are the memory of all lists and texts of a tree.
func stretches(v api.Value) []stretch {
	l := []stretch{stretchOf(v.List), stretchOf(v.Fields), stretchOfText(v.Text)}
	for _, in := range v.List {
		l = append(l, stretches(in)...)
	}
	for _, in := range v.Fields {
		l = append(l, stretches(in.Value)...)
	}
	return l
}

// apart looks whether no two pieces of memory have a byte in common.
func apart(t *testing.T, l []stretch) {
	t.Helper()
	// One byte alone may be a text of the library's own, which never changes.
	l = slices.DeleteFunc(l, func(s stretch) bool { return s.to-s.from <= 1 })
	slices.SortFunc(l, func(a, b stretch) int { return int(a.from) - int(b.from) })
	for i := 1; i < len(l); i++ {
		if l[i-1].to > l[i].from {
			t.Fatal("P2: two lists or texts share memory")
		}
	}
}

func TestNotShared(t *testing.T) { // P2: no two lists and texts of the answers share memory, their spare room neither; nor do they share it with what was handed in
	many := 0
	for i, w := range someWays(t, 300) {
		m := newMaker(int64(i))
		p := w.plan(t)
		for range 3 {
			var texts [][]byte
			in := lent(m.normal(t, w.from, w.wrote), &texts)
			a, k, _ := ask(p, in)
			b, l, _ := ask(p, in)
			all := slices.Concat(stretches(a), stretches(b), stretches(in), []stretch{stretchOf(k), stretchOf(l)})
			for _, s := range slices.Concat(k, l) {
				all = append(all, stretchOfText(s))
			}
			if len(all) > 100 {
				many++
			}
			apart(t, all)
			runtime.KeepAlive([]any{a, b, k, l, in, texts})
		}
	}
	if many < 100 {
		t.Errorf("%d trees have many lists: too few", many)
	}
}

func TestSharedIn(t *testing.T) { // P2: a tree whose parts share their memory is answered as one whose parts don't
	w := of(t, oldLost, newLost)
	in := msg(at(1, num(3)), at(2, num(4)), at(5, dict(pair(text("key"), one(2, num(5))))))
	read := msg(at(2, num(4)), at(5, dict(pair(text("key"), one(2, num(5))))))
	v := msg(at(3, in), at(4, list(in, in)), at(5, dict(pair(text("a"), in), pair(text("b"), in))), at(7, in))
	want := msg(at(3, list(read)), at(4, list(read, read)), at(5, dict(pair(text("a"), read), pair(text("b"), read))), at(7, read))
	w.becomes(t, v, want, "3.1", "4.0.1", "4.1.1", "5.0.2.1", "5.1.2.1", "7.1")
	got, _ := w.plan(t).Do(v)
	apart(t, stretches(got))
	runtime.KeepAlive(got)
}

func TestWrittenOver(t *testing.T) { // P2: who writes over an answer, its spare room too, changes no other answer
	for i, w := range someWays(t, 300) {
		p := w.plan(t)
		v := newMaker(int64(i)).normal(t, w.from, w.wrote)
		kept, keptLost, before := ask(p, v)
		a, l, _ := ask(p, v)
		spoil(&a)
		for i := range l[:cap(l)] {
			l[:cap(l)][i] = "spoilt"
		}
		if now := fmt.Sprintf("%s %v %q %v", spelled(kept), api.OK, keptLost, api.OK); now != before {
			t.Fatalf("P2: what is done with one answer is seen in another: %s, want %s", now, before)
		}
		if _, _, again := ask(p, v); again != before {
			t.Fatalf("P2: what is done with an answer is seen in the next: %s, want %s", again, before)
		}
	}
}

func TestSchemasStay(t *testing.T) { // P2: the schemas are as they were
	whole := func(s *bind.Schema) string {
		var b strings.Builder
		for _, name := range s.Messages() {
			m, _ := s.Message(name)
			fmt.Fprintf(&b, "%+v", m)
		}
		return b.String() + fmt.Sprint(s.Texts())
	}
	for i, w := range someWays(t, 100) {
		before := whole(w.from) + whole(w.to)
		a, l, _ := ask(w.plan(t), newMaker(int64(i)).normal(t, w.from, w.wrote))
		spoil(&a)
		for i := range l[:cap(l)] {
			l[:cap(l)][i] = "spoilt"
		}
		if whole(w.from)+whole(w.to) != before {
			t.Fatal("P2: a schema is changed")
		}
	}
}

func TestNilAndEmpty(t *testing.T) { // P2: nil and empty lists are the same
	w := of(t, oldLost, newLost)
	empty := api.Value{Kind: api.VMessage, Fields: []api.Entry{}, List: []api.Value{}}
	number := api.Value{Kind: api.VNum, Num: 1, List: []api.Value{}, Fields: []api.Entry{}}
	w.becomes(t, empty, msg())
	w.becomes(t, one(3, empty), one(3, list(msg())))
	w.becomes(t, one(4, api.Value{Kind: api.VList, List: []api.Value{empty}, Fields: []api.Entry{}}), one(4, list(msg())))
	w.becomes(t, one(2, number), one(2, num(1)))
	w.becomes(t, one(1, number), msg(), "1")
	refuses(t, w.plan(t), one(4, api.Value{Kind: api.VList, List: []api.Value{}}), api.ErrNormal)
}

func TestLittleKept(t *testing.T) { // P2: a plan and its answers hold no more than what is in them, however large the trees were
	w := of(t, "message M { bytes gone = 1; string b = 2; M m = 3; }", "message M { reserved 1; string b = 2; M m = 3; }")
	used := func() uint64 {
		var m runtime.MemStats
		runtime.GC()
		runtime.ReadMemStats(&m)
		return m.HeapAlloc
	}
	before := used()
	var kept []any
	p := w.plan(t)
	for range 100 {
		whole := strings.Repeat("x", 1<<19)
		v := msg(at(1, text(whole)), at(2, text(whole[:5])), at(3, one(2, text(whole[:7]))))
		got, e := p.Do(v)
		l, _ := p.Lost(v)
		if e != api.OK {
			t.Fatal(e)
		}
		kept = append(kept, got, l)
	}
	if after := used(); after > before+10<<20 {
		t.Errorf("P2: 100 small answers hold %d bytes", after-before)
	}
	runtime.KeepAlive(kept)
}
