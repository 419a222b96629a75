package stream_test

import (
	"fmt"
	"runtime"
	"slices"
	"strings"
	"testing"
	"unsafe"

	"sigil/api"
	"sigil/stream"
)

// lentBytes is a copy of bytes with spare room that is filled; all that were lent are told.
func lentBytes(b []byte, lot *[][]byte) []byte {
	b = append(slices.Clone(b), "spare room"...)[:len(b)]
	*lot = append(*lot, b)
	return b
}

// lentText is a text over bytes that can be changed behind the program's back.
func lentText(s string, lot *[][]byte) string {
	b := lentBytes([]byte(s), lot)
	if len(b) == 0 {
		return ""
	}
	return unsafe.String(&b[0], len(b))
}

// lent is a copy of a tree that can be changed so: its lists have spare room that is filled, its texts lie over bytes of which all are told.
func lent(v api.Value, lot *[][]byte) api.Value {
	v.Text = lentText(v.Text, lot)
	l := make([]api.Value, 0, len(v.List)+2)
	for _, in := range v.List {
		l = append(l, lent(in, lot))
	}
	fields := make([]api.Entry, 0, len(v.Fields)+2)
	for _, in := range v.Fields {
		fields = append(fields, at(in.Number, lent(in.Value, lot)))
	}
	v.List, v.Fields = l, fields
	for i := range 2 {
		l[:cap(l)][len(l)+i] = text("room")
		fields[:cap(fields)][len(fields)+i] = at(77, text("room"))
	}
	return v
}

// lent is a question that can be changed so.
func (q question) lent(lot *[][]byte) question {
	out := question{made{h: api.Head{Type: lentText(q.h.Type, lot), Per: q.h.Per}}, lentBytes(q.b, lot)}
	for _, s := range q.h.Sources {
		out.h.Sources = append(out.h.Sources, api.Source{Name: lentText(s.Name, lot), Text: lentText(s.Text, lot)})
	}
	out.h.Sources = append(out.h.Sources, api.Source{Name: "room", Text: "room"})[:len(q.h.Sources)]
	for _, v := range q.l {
		out.l = append(out.l, lent(v, lot))
	}
	out.l = append(out.l, text("room"))[:len(q.l)]
	return out
}

// wholly tells a tree with the spare room of its lists.
func wholly(v api.Value) string {
	s := fmt.Sprintf("%d %d %q [", v.Kind, v.Num, v.Text)
	for _, in := range v.List[:cap(v.List)] {
		s += wholly(in) + ","
	}
	s += "] {"
	for _, in := range v.Fields[:cap(v.Fields)] {
		s += fmt.Sprint(in.Number, ":", wholly(in.Value), ",")
	}
	return s + "}"
}

// wholly tells a question with the spare room of all that is in it.
func (q question) wholly(lot [][]byte) string {
	s := fmt.Sprint(q.h.Sources[:cap(q.h.Sources)], q.h.Type, q.h.Per)
	for _, v := range q.l[:cap(q.l)] {
		s += wholly(v)
	}
	for _, b := range lot {
		s += fmt.Sprint(b[:cap(b)])
	}
	return s
}

// spoilAll writes over a list, its spare room too.
func spoilAll[T any](l []T, with T) {
	l = l[:cap(l)]
	for i := range l {
		l[i] = with
	}
}

// spoilValues writes over trees, and the list of them.
func spoilValues(l []api.Value) {
	for i := range l[:cap(l)] {
		spoil(&l[:cap(l)][i])
	}
	spoilAll(l, text("spoilt"))
}

// spoilBytes turns all bits over, those of the spare room too.
func spoilBytes(lot ...[]byte) {
	for _, b := range lot {
		b = b[:cap(b)]
		for i := range b {
			b[i] ^= 0xff
		}
	}
}

// spoil writes over all that a question holds.
func (q question) spoil(lot [][]byte) {
	spoilAll(q.h.Sources, api.Source{Name: "spoilt"})
	spoilValues(q.l)
	spoilBytes(lot...)
}

// spoil writes over all that is answered.
func (a answers) spoil() {
	spoilBytes(a.packed, a.appended, a.mended)
	spoilAll(a.head.Sources, api.Source{Name: "spoilt"})
	spoilValues(a.read)
	spoilValues(a.each)
	spoilAll(a.hurts, api.Hurt{From: -1})
	spoilAll(a.mendHurts, api.Hurt{From: -1})
}

func TestNotChanged(t *testing.T) { // P2: what is handed in is not changed, its spare room neither; nor is that room seen
	for _, q := range questions(t, 100) {
		want := answered(q).told()
		var lot [][]byte
		in := q.lent(&lot)
		before := in.wholly(lot)
		if got := answered(in).told(); got != want {
			t.Fatalf("P2: with spare room: %.300s, want %.300s", got, want)
		}
		if in.wholly(lot) != before {
			t.Fatal("P2: what was handed in is changed")
		}
	}
}

func TestNotKept(t *testing.T) { // P2: who changes what was handed in changes no answer, nor what is answered later
	for _, q := range questions(t, 100) {
		want := answered(q).told()
		var lot [][]byte
		in := q.lent(&lot)
		got := answered(in)
		in.spoil(lot)
		if got.told() != want {
			t.Fatalf("P2: an answer is changed by who changes what was handed in: %.300s, want %.300s", got.told(), want)
		}
		if again := answered(q).told(); again != want {
			t.Fatalf("P3: asked again: %.300s, want %.300s", again, want)
		}
	}
}

// stretch is a piece of memory.
type stretch struct{ from, to uintptr }

// stretchOf is the memory of a list, its spare room too.
func stretchOf[T any](l []T) stretch {
	var one T
	from := uintptr(unsafe.Pointer(unsafe.SliceData(l)))
	return stretch{from, from + uintptr(cap(l))*unsafe.Sizeof(one)}
}

// stretchOfText is the memory of a text.
func stretchOfText(s string) stretch {
	return stretchOf(unsafe.Slice(unsafe.StringData(s), len(s)))
}

// stretches are the memory of all lists and texts of a tree.
func stretches(v api.Value) []stretch {
	l := []stretch{stretchOf(v.List), stretchOf(v.Fields), stretchOfText(v.Text)}
	for _, in := range v.List {
		l = append(l, stretches(in)...)
	}
	for _, in := range v.Fields {
		l = append(l, stretches(in.Value)...)
	}
	return l
}

// stretchesOf are the memory of trees, and of the list of them.
func stretchesOf(values []api.Value) []stretch {
	l := []stretch{stretchOf(values)}
	for _, v := range values {
		l = append(l, stretches(v)...)
	}
	return l
}

// stretchesOfHead are the memory of a Head.
func stretchesOfHead(h api.Head) []stretch {
	l := []stretch{stretchOf(h.Sources), stretchOfText(h.Type)}
	for _, s := range h.Sources {
		l = append(l, stretchOfText(s.Name), stretchOfText(s.Text))
	}
	return l
}

// stretches are the memory of all that is answered.
func (a answers) stretches() []stretch {
	own := []stretch{stretchOf(a.packed), stretchOf(a.appended), stretchOf(a.mended), stretchOf(a.hurts), stretchOf(a.mendHurts)}
	return slices.Concat(own, stretchesOfHead(a.head), stretchesOf(a.read), stretchesOf(a.each))
}

// apart looks whether no two pieces of memory have a byte in common.
func apart(t *testing.T, l []stretch) {
	t.Helper()
	// One byte alone may be a text of the library's own, which never changes.
	l = slices.DeleteFunc(l, func(s stretch) bool { return s.to-s.from <= 1 })
	slices.SortFunc(l, func(a, b stretch) int { return int(a.from) - int(b.from) })
	for i := 1; i < len(l); i++ {
		if l[i-1].to > l[i].from {
			t.Fatal("P2: two lists or texts share memory")
		}
	}
}

func TestNotShared(t *testing.T) { // P2: no two lists and texts of the answers share memory, their spare room neither; nor do they share it with what was handed in
	for _, q := range questions(t, 100) {
		var lot [][]byte
		in := q.lent(&lot)
		a, b := answered(in), answered(in)
		apart(t, slices.Concat(a.stretches(), b.stretches(), stretchesOf(in.l), stretchesOfHead(in.h), []stretch{stretchOf(in.b)}))
		runtime.KeepAlive([]any{a, b, in, lot})
	}
}

func TestWrittenOver(t *testing.T) { // P2: who writes over an answer, its spare room too, changes no other answer
	for _, q := range questions(t, 100) {
		kept := answered(q)
		before := kept.told()
		answered(q).spoil()
		if kept.told() != before {
			t.Fatal("P2: what is done with one answer is seen in another")
		}
		if again := answered(q).told(); again != before {
			t.Fatalf("P2: what is done with an answer is seen in the next: %.300s, want %.300s", again, before)
		}
	}
}

func TestSharedIn(t *testing.T) { // P2: values that share their memory are answered as those that don't
	h := headFor(small, "p.M", 2)
	in := msg(at(1, num(3)), at(3, list(num(1), num(2))))
	v := msg(at(4, dict(pair(text("a"), in), pair(text("b"), in))), at(7, in))
	b := packed(t, h, v, v, in, in, v)
	l, _, e := stream.Read(b)
	if e != api.OK || !sameAll(l, []api.Value{v, v, in, in, v}) {
		t.Fatalf("P1707: %v, %v", l, e)
	}
	apart(t, stretchesOf(l))
}

func TestNilAndEmpty(t *testing.T) { // P2: nil and empty lists are the same
	h := exampleHeadFor(2)
	empty := api.Value{Kind: api.VMessage, Fields: []api.Entry{}, List: []api.Value{}}
	b := packed(t, h, empty, msg())
	reads(t, b, []api.Value{msg(), msg()})
	for _, l := range [][]api.Value{nil, {}} {
		out, place, e := stream.Append(b, l)
		if e != api.OK || place != 0 || string(out) != string(b) {
			t.Errorf("P2: Append of no values: %d, %v", place, e)
		}
		if out, place, e := stream.Pack(h, l); e != api.OK || place != 0 || len(out) != 85 {
			t.Errorf("P2: Pack of no values: %d, %v", place, e)
		}
	}
	packRefuses(t, api.Head{Sources: []api.Source{}, Type: "M", Per: 1}, nil, 0, api.ErrName)
	packRefuses(t, api.Head{Sources: nil, Type: "M", Per: 1}, nil, 0, api.ErrName)
	headRefuses(t, []byte{}, api.ErrMagic)
}

func TestLittleKept(t *testing.T) { // P2: a value holds no more than what is in it, however large the stream was
	used := func() uint64 {
		var m runtime.MemStats
		runtime.GC()
		runtime.ReadMemStats(&m)
		return m.HeapAlloc
	}
	h := headFor(plain, "M", 2)
	b := packed(t, h, holds("small"), holds(strings.Repeat("x", 1<<19)))
	before := used()
	var kept []any
	for range 60 {
		l, _, e := stream.Read(b)
		head, _, _ := stream.Look(b)
		if e != api.OK || len(l) != 2 {
			t.Fatal(e)
		}
		for _, v := range each(t, b) {
			kept = append(kept, v)
			break
		}
		kept = append(kept, l[0], head)
	}
	if after := used(); after > before+5<<20 {
		t.Errorf("P2: 60 small answers hold %d bytes", after-before)
	}
	runtime.KeepAlive(kept)
}
