package sign_test

import (
	"fmt"
	"runtime"
	"slices"
	"strings"
	"testing"
	"unsafe"

	"sigil/api"
	"sigil/bind"
	"sigil/sign"
)

// lentBytes is a copy of bytes with spare room that is filled; all that were lent are told.
func lentBytes(b []byte, lot *[][]byte) []byte {
	b = append(slices.Clone(b), "spare room"...)[:len(b)]
	*lot = append(*lot, b)
	return b
}

// lentText is a text over bytes that can be changed behind the program's back.
func lentText(s string, lot *[][]byte) string {
	b := lentBytes([]byte(s), lot)
	if len(b) == 0 {
		return ""
	}
	return unsafe.String(&b[0], len(b))
}

// lent is a copy of a tree that can be changed so: its lists have spare room that is filled, its texts lie over bytes of which all are told.
func lent(v api.Value, lot *[][]byte) api.Value {
	v.Text = lentText(v.Text, lot)
	l := make([]api.Value, 0, len(v.List)+2)
	for _, in := range v.List {
		l = append(l, lent(in, lot))
	}
	fields := make([]api.Entry, 0, len(v.Fields)+2)
	for _, in := range v.Fields {
		fields = append(fields, at(in.Number, lent(in.Value, lot)))
	}
	v.List, v.Fields = l, fields
	for i := range 2 {
		l[:cap(l)][len(l)+i] = text("room")
		fields[:cap(fields)][len(fields)+i] = at(77, text("room"))
	}
	return v
}

// lent is a question that can be changed so.
func (q question) lent(lot *[][]byte) question {
	out := question{made: made{q.s, lentText(q.name, lot), lent(q.m, lot)}, path: lentText(q.path, lot), root: lentBytes(q.root, lot)}
	out.proof = api.Proof{Path: lentText(q.proof.Path, lot), Value: lent(q.proof.Value, lot)}
	for _, r := range q.proof.Rungs {
		beside := make([][]byte, 0, len(r.Beside)+1)
		for _, d := range r.Beside {
			beside = append(beside, lentBytes(d, lot))
		}
		beside[:cap(beside)][len(beside)] = []byte("room")
		out.proof.Rungs = append(out.proof.Rungs, api.Rung{At: r.At, Of: r.Of, Beside: beside})
	}
	out.proof.Rungs = append(out.proof.Rungs, api.Rung{At: 5, Of: 7})[:len(q.proof.Rungs)]
	return out
}

// wholly tells a tree with the spare room of its lists.
func wholly(v api.Value) string {
	s := fmt.Sprintf("%d %d %q [", v.Kind, v.Num, v.Text)
	for _, in := range v.List[:cap(v.List)] {
		s += wholly(in) + ","
	}
	s += "] {"
	for _, in := range v.Fields[:cap(v.Fields)] {
		s += fmt.Sprint(in.Number, ":", wholly(in.Value), ",")
	}
	return s + "}"
}

// wholly tells a question with the spare room of all that is in it.
func (q question) wholly(lot [][]byte) string {
	s := wholly(q.m) + wholly(q.proof.Value) + q.name + q.path + q.proof.Path
	for _, r := range q.proof.Rungs[:cap(q.proof.Rungs)] {
		s += fmt.Sprint(r.At, r.Of, r.Beside[:cap(r.Beside)])
	}
	for _, b := range lot {
		s += fmt.Sprint(b[:cap(b)])
	}
	return s
}

// spoil writes over the lists of a tree, their spare room too.
func spoil(v *api.Value) {
	l, f := v.List[:cap(v.List)], v.Fields[:cap(v.Fields)]
	for i := range l {
		spoil(&l[i])
		l[i] = api.Value{Kind: 9, Num: -7, Text: "spoilt"}
	}
	for i := range f {
		spoil(&f[i].Value)
		f[i] = api.Entry{Number: -9, Value: api.Value{Kind: 9, Num: -7, Text: "spoilt"}}
	}
}

// spoilBytes turns all bits over, those of the spare room too.
func spoilBytes(lot ...[]byte) {
	for _, b := range lot {
		b = b[:cap(b)]
		for i := range b {
			b[i] ^= 0xff
		}
	}
}

// spoilProof writes over a proof, its spare room too.
func spoilProof(p api.Proof) {
	spoil(&p.Value)
	rungs := p.Rungs[:cap(p.Rungs)]
	for i := range rungs {
		spoilBytes(rungs[i].Beside...)
		for k := range rungs[i].Beside[:cap(rungs[i].Beside)] {
			rungs[i].Beside[:cap(rungs[i].Beside)][k] = []byte("spoilt")
		}
		rungs[i] = api.Rung{At: -1, Of: -1}
	}
}

func TestNotChanged(t *testing.T) { // P2: what is handed in is not changed, its spare room neither; nor is that room seen
	for _, q := range questions(t, 300) {
		want := answered(q).told()
		var lot [][]byte
		in := q.lent(&lot)
		before := in.wholly(lot)
		if got := answered(in).told(); got != want {
			t.Fatalf("P2: with spare room: %.300s, want %.300s", got, want)
		}
		if in.wholly(lot) != before {
			t.Fatal("P2: what was handed in is changed")
		}
	}
}

func TestNotKept(t *testing.T) { // P2: who changes what was handed in changes no answer, nor what is answered later
	for _, q := range questions(t, 300) {
		want := answered(q).told()
		var lot [][]byte
		in := q.lent(&lot)
		got := answered(in)
		spoil(&in.m)
		spoilProof(in.proof)
		spoilBytes(lot...)
		if got.told() != want {
			t.Fatalf("P2: an answer is changed by who changes what was handed in: %.300s, want %.300s", got.told(), want)
		}
		if again := answered(q).told(); again != want {
			t.Fatalf("P3: asked again: %.300s, want %.300s", again, want)
		}
	}
}

// stretch is a piece of memory.
type stretch struct{ from, to uintptr }

// stretchOf is the memory of a list, its spare room too.
func stretchOf[T any](l []T) stretch {
	var one T
	from := uintptr(unsafe.Pointer(unsafe.SliceData(l)))
	return stretch{from, from + uintptr(cap(l))*unsafe.Sizeof(one)}
}

// stretchOfText is the memory of a text.
func stretchOfText(s string) stretch {
	return stretchOf(unsafe.Slice(unsafe.StringData(s), len(s)))
}

// stretches are the memory of all lists and texts of a tree.
func stretches(v api.Value) []stretch {
	l := []stretch{stretchOf(v.List), stretchOf(v.Fields), stretchOfText(v.Text)}
	for _, in := range v.List {
		l = append(l, stretches(in)...)
	}
	for _, in := range v.Fields {
		l = append(l, stretches(in.Value)...)
	}
	return l
}

// stretchesOf are the memory of all lists and texts of a proof.
func stretchesOf(p api.Proof) []stretch {
	l := append(stretches(p.Value), stretchOfText(p.Path), stretchOf(p.Rungs))
	for _, r := range p.Rungs {
		l = append(l, stretchOf(r.Beside))
		for _, d := range r.Beside {
			l = append(l, stretchOf(d))
		}
	}
	return l
}

// stretches are the memory of all that is answered.
func (a answers) stretches() []stretch {
	return append(stretchesOf(a.proof), stretchOf(a.schema), stretchOf(a.typ), stretchOf(a.preimage), stretchOf(a.message), stretchOf(a.commit))
}

// apart looks whether no two pieces of memory have a byte in common.
func apart(t *testing.T, l []stretch) {
	t.Helper()
	// One byte alone may be a text of the library's own, which never changes.
	l = slices.DeleteFunc(l, func(s stretch) bool { return s.to-s.from <= 1 })
	slices.SortFunc(l, func(a, b stretch) int { return int(a.from) - int(b.from) })
	for i := 1; i < len(l); i++ {
		if l[i-1].to > l[i].from {
			t.Fatal("P2: two lists or texts share memory")
		}
	}
}

func TestNotShared(t *testing.T) { // P2: no two lists and texts of the answers share memory, their spare room neither; nor do they share it with what was handed in
	for _, q := range questions(t, 300) {
		var lot [][]byte
		in := q.lent(&lot)
		a, b := answered(in), answered(in)
		all := slices.Concat(a.stretches(), b.stretches(), stretches(in.m), stretchesOf(in.proof), []stretch{stretchOfText(in.name), stretchOfText(in.path), stretchOf(in.root)})
		apart(t, all)
		runtime.KeepAlive([]any{a, b, in, lot})
	}
}

func TestSharedIn(t *testing.T) { // P2: a tree, and a proof, whose parts share their memory are answered as those whose parts don't
	s := smallSchema()
	in := msg(at(1, num(3)), at(3, list(num(1), num(2))))
	m := msg(at(4, dict(kv("a", in), kv("b", in))), at(7, in))
	for _, p := range []string{"", "d", `d["a"]`, `d["b"].c[1]`, "g.c"} {
		apart(t, stretchesOf(opens(t, s, "p.M", m, p)))
	}
	root, _ := sign.Commit(s, "p.M", one(7, one(7, msg())))
	verifies(t, s, "p.M", root, api.Proof{Path: "g.g", Value: msg(), Rungs: []api.Rung{{Of: 1}, {Of: 1}}}, api.OK)
	same := zeros(1)
	verifies(t, s, "p.M", root, api.Proof{Path: "g.g", Value: msg(), Rungs: []api.Rung{{Of: 2, Beside: same}, {Of: 2, Beside: same}}}, api.ErrForged)
	verifies(t, s, "p.M", same[0], api.Proof{Path: "g", Value: msg(), Rungs: []api.Rung{{Of: 2, Beside: same}}}, api.ErrForged)
}

func TestWrittenOver(t *testing.T) { // P2: who writes over an answer, its spare room too, changes no other answer
	for _, q := range questions(t, 300) {
		kept := answered(q)
		before := kept.told()
		a := answered(q)
		spoilProof(a.proof)
		spoilBytes(a.schema, a.typ, a.preimage, a.message, a.commit)
		if kept.told() != before {
			t.Fatal("P2: what is done with one answer is seen in another")
		}
		if again := answered(q).told(); again != before {
			t.Fatalf("P2: what is done with an answer is seen in the next: %.300s, want %.300s", again, before)
		}
	}
}

func TestSchemasStay(t *testing.T) { // P2: a schema is as it was
	whole := func(s *bind.Schema) string {
		var b strings.Builder
		for _, name := range s.Messages() {
			m, _ := s.Message(name)
			fmt.Fprintf(&b, "%+v", m)
		}
		for _, name := range s.Enums() {
			d, _ := s.Enum(name)
			fmt.Fprintf(&b, "%+v", d)
		}
		return b.String() + fmt.Sprint(s.Texts())
	}
	for _, q := range questions(t, 100) {
		before := whole(q.s)
		a := answered(q)
		spoilProof(a.proof)
		spoilBytes(a.schema, a.typ)
		if whole(q.s) != before {
			t.Fatal("P2: a schema is changed")
		}
	}
}

func TestNilAndEmpty(t *testing.T) { // P2: nil and empty lists are the same
	s := smallSchema()
	empty := api.Value{Kind: api.VMessage, Fields: []api.Entry{}, List: []api.Value{}}
	number := api.Value{Kind: api.VNum, Num: 1, List: []api.Value{}, Fields: []api.Entry{}}
	root := commits(t, s, "p.M", empty)
	if again := commits(t, s, "p.M", msg()); string(again) != string(root) {
		t.Error("P2: nil and empty lists have unlike commitments")
	}
	speaks(t, s, "p.M", empty)
	opens(t, s, "p.M", empty, "")
	opens(t, s, "p.M", msg(at(1, number), at(7, empty)), "g")
	verifies(t, s, "p.M", root, api.Proof{Value: empty, Rungs: []api.Rung{}}, api.OK)
	verifies(t, s, "p.M", root, api.Proof{Value: msg()}, api.OK)
	root = commits(t, s, "p.M", one(7, one(1, num(1))))
	verifies(t, s, "p.M", root, api.Proof{Path: "g.a", Value: number, Rungs: []api.Rung{{Of: 1, Beside: [][]byte{}}, {Of: 1}}}, api.OK)
	verifies(t, s, "p.M", root, api.Proof{Path: "c", Value: api.Value{Kind: api.VList, List: []api.Value{}}, Rungs: lone(1)}, api.ErrNormal)
	verifies(t, s, "p.M", []byte{}, api.Proof{Value: empty}, api.ErrProof)
}

func TestLittleKept(t *testing.T) { // P2: an answer holds no more than what is in it, however large the tree was
	s := smallSchema()
	used := func() uint64 {
		var m runtime.MemStats
		runtime.GC()
		runtime.ReadMemStats(&m)
		return m.HeapAlloc
	}
	before := used()
	var kept []any
	for range 60 {
		whole := strings.Repeat("x", 1<<19)
		m := msg(at(2, text(whole)), at(4, dict(kv(whole[:5], one(2, text(whole[:7]))))))
		p, e := sign.Open(s, "p.M", m, `d["xxxxx"]`)
		d, _ := sign.Commit(s, "p.M", m)
		if e != api.OK {
			t.Fatal(e)
		}
		kept = append(kept, p, d)
	}
	if after := used(); after > before+5<<20 {
		t.Errorf("P2: 60 small answers hold %d bytes", after-before)
	}
	runtime.KeepAlive(kept)
}
