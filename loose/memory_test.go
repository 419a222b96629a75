package loose_test

import (
	"bytes"
	"fmt"
	"runtime"
	"slices"
	"testing"
	"unsafe"

	"sigil/api"
	"sigil/loose"
)

// roomy are bytes with spare room that is filled: with what would go on.
func roomy(b []byte) []byte {
	all := append(slices.Clone(b), row("08 01 61 00 ff 80 61 61 61 61 61 61")...)
	return all[:len(b)]
}

// lent is a copy of a tree that can be changed behind the program's back: its lists have spare room that is filled, its texts lie over bytes of which all are told.
func lent(v api.Value, texts *[][]byte) api.Value {
	if v.Text != "" {
		b := []byte(v.Text)
		v.Text = unsafe.String(&b[0], len(b))
		*texts = append(*texts, b)
	}
	l := make([]api.Value, 0, len(v.List)+2)
	for _, in := range v.List {
		l = append(l, lent(in, texts))
	}
	fields := make([]api.Entry, 0, len(v.Fields)+2)
	for _, in := range v.Fields {
		fields = append(fields, at(in.Number, lent(in.Value, texts)))
	}
	v.List, v.Fields = l, fields
	for i := range 2 {
		l[:cap(l)][len(l)+i] = text("room")
		fields[:cap(fields)][len(fields)+i] = at(77, text("room"))
	}
	return v
}

// wholly tells a tree with the spare room of its lists.
func wholly(v api.Value) string {
	s := fmt.Sprintf("%d %d %q [", v.Kind, v.Num, v.Text)
	for _, in := range v.List[:cap(v.List)] {
		s += wholly(in) + ","
	}
	s += "] {"
	for _, in := range v.Fields[:cap(v.Fields)] {
		s += fmt.Sprint(in.Number, ":", wholly(in.Value), ",")
	}
	return s + "}"
}

// spoil writes over the lists of a tree, their spare room too.
func spoil(v *api.Value) {
	l, f := v.List[:cap(v.List)], v.Fields[:cap(v.Fields)]
	for i := range l {
		spoil(&l[i])
		l[i] = api.Value{Kind: 9, Num: -7, Text: "spoilt"}
	}
	for i := range f {
		spoil(&f[i].Value)
		f[i] = api.Entry{Number: -9, Value: api.Value{Kind: 9, Num: -7, Text: "spoilt"}}
	}
}

// turned turns all bits over, those of the spare room too.
func turned(b []byte) {
	for i := range b[:cap(b)] {
		b[:cap(b)][i] ^= 0xff
	}
}

// spoilSkips writes over a list of records, and over all their trails.
func spoilSkips(l []api.Skip) {
	for i := range l[:cap(l)] {
		s := &l[:cap(l)][i]
		for k := range s.Trail[:cap(s.Trail)] {
			s.Trail[:cap(s.Trail)][k] = -9
		}
		*s = api.Skip{At: -9, Number: -9, Kind: -9}
	}
}

// bytesOf are made rows of a seed: right ones, and broken ones.
func bytesOf(seed int64, name string) [][]byte {
	m := newMaker(seed)
	l := [][]byte{m.written(name, 1+m.Intn(4))}
	for _, m.rare = range []int{60, 10} {
		l = append(l, m.written(name, 1+m.Intn(4)))
	}
	return l
}

// holds looks whether answers are what a second reading says.
func holds(t *testing.T, b []byte, a answer, want said) {
	t.Helper()
	if !same(a.tree, want.tree) || a.at != want.bad.at || a.bytesAt != want.bad.at || a.skippedAt != want.bad.at || a.err != want.bad.err || a.bytesErr != want.bad.err || a.skippedErr != want.bad.err || !sameSkips(a.skips, want.skips) {
		t.Fatalf("P2: of %s: %+v, want %+v", some(b), a, want)
	}
}

func TestNotChanged(t *testing.T) { // P2: what is handed in is not changed, its spare room neither; nor is that room seen
	s := wideSchema()
	for seed := range int64(250) {
		for _, name := range s.Messages() {
			for _, b := range bytesOf(seed, name) {
				in := roomy(b)
				before := slices.Clone(in[:cap(in)])
				a := ask(s, name, in)
				if !bytes.Equal(in[:cap(in)], before) {
					t.Fatalf("P2: % x is changed to % x", before, in[:cap(in)])
				}
				holds(t, b, a, secondly(s, name, b))
			}
			m := newMaker(seed)
			a, b := m.normal(name), m.normal(name)
			var texts [][]byte
			x, y := lent(a, &texts), lent(b, &texts)
			before := wholly(x) + wholly(y)
			merges(t, s, name, x, y, secondMerge(s, name, a, b))
			merges(t, s, name, x, x, secondMerge(s, name, a, a))
			parts(t, s, name, x, num(1), api.ErrType)
			if wholly(x)+wholly(y) != before {
				t.Fatalf("P2: what was handed in is changed: %s, %s", wholly(x), wholly(y))
			}
		}
	}
}

func TestNotKept(t *testing.T) { // P2: what is handed in is not kept, neither the bytes, nor the name, nor the trees with their texts: who changes them changes no answer
	s := wideSchema()
	memory := make([]byte, 3)
	name := unsafe.String(&memory[0], 3)
	for seed := range int64(300) {
		for _, right := range s.Messages() {
			copy(memory, right)
			b := roomy(bytesOf(seed, right)[0])
			want, canon := secondly(s, right, b), []byte(nil)
			canon = canonical(t, s, right, want.tree)
			a := ask(s, name, b)
			m := newMaker(seed)
			x, y := m.normal(right), m.normal(right)
			var texts [][]byte
			p, q := lent(x, &texts), lent(y, &texts)
			merged, _, e := loose.Merge(s, name, p, q)
			copy(memory, "???")
			turned(b)
			for _, in := range texts {
				turned(in)
			}
			spoil(&p)
			spoil(&q)
			holds(t, b, a, want)
			if !bytes.Equal(a.bytes, canon) {
				t.Fatalf("P2: Canonical is changed by who changes what was handed in: %s, want %s", some(a.bytes), some(canon))
			}
			if e != api.OK || !same(merged, secondMerge(s, right, x, y)) {
				t.Fatalf("P2: Merge is changed by who changes what was handed in: %s", short(merged))
			}
			if _, _, e := loose.Decode(s, name, nil); e != api.ErrName {
				t.Fatalf("P2: the name was kept: %v", e)
			}
		}
	}
}

// stretch is a piece of memory.
type stretch struct{ from, to uintptr }

// stretchOf is the memory of a list, its spare room too.
func stretchOf[T any](l []T) stretch {
	var one T
	from := uintptr(unsafe.Pointer(unsafe.SliceData(l)))
	return stretch{from, from + uintptr(cap(l))*unsafe.Sizeof(one)}
}

// stretches are the memory of all lists and texts of a tree.
func stretches(v api.Value) []stretch {
	var l []stretch
	if cap(v.List) > 0 {
		l = append(l, stretchOf(v.List))
	}
	if cap(v.Fields) > 0 {
		l = append(l, stretchOf(v.Fields))
	}
	if len(v.Text) > 0 {
		l = append(l, stretchOf(unsafe.Slice(unsafe.StringData(v.Text), len(v.Text))))
	}
	for _, in := range v.List {
		l = append(l, stretches(in)...)
	}
	for _, in := range v.Fields {
		l = append(l, stretches(in.Value)...)
	}
	return l
}

func TestNotShared(t *testing.T) { // P2: no two lists of the answers share memory, their spare room neither; nor do they share it with what was handed in
	s := wideSchema()
	for seed := range int64(200) {
		var kept []any
		var l []stretch
		keep := func(v api.Value) {
			kept, l = append(kept, v), append(l, stretches(v)...)
		}
		for range 2 {
			for _, name := range s.Messages() {
				b := roomy(bytesOf(seed, name)[0])
				a := ask(s, name, b)
				keep(a.tree)
				kept, l = append(kept, b, a), append(l, stretchOf(b), stretchOf(a.bytes), stretchOf(a.skips))
				for _, k := range a.skips {
					if cap(k.Trail) > 0 {
						l = append(l, stretchOf(k.Trail))
					}
				}
				m := newMaker(seed)
				var texts [][]byte
				x, y := lent(m.normal(name), &texts), lent(m.normal(name), &texts)
				v, _, _ := loose.Merge(s, name, x, y)
				w, _, _ := loose.Merge(s, name, x, x)
				keep(x)
				keep(y)
				keep(v)
				keep(w)
			}
		}
		l = slices.DeleteFunc(l, func(s stretch) bool { return s.from == s.to })
		slices.SortFunc(l, func(a, b stretch) int { return int(a.from) - int(b.from) })
		for i := 1; i < len(l); i++ {
			if l[i-1].to > l[i].from {
				t.Fatalf("P2: two lists share memory")
			}
		}
		runtime.KeepAlive(kept)
	}
}

func TestWrittenOver(t *testing.T) { // P2: who writes over an answer, its spare room too, changes no other answer
	s := wideSchema()
	for seed := range int64(200) {
		for _, name := range s.Messages() {
			b := bytesOf(seed, name)[0]
			want := secondly(s, name, b)
			kept := ask(s, name, b)
			before := wholly(kept.tree)
			m := newMaker(seed)
			x, y := m.normal(name), m.normal(name)
			both, _, _ := loose.Merge(s, name, x, y)
			told := wholly(x) + wholly(y) + wholly(both)

			a := ask(s, name, b)
			spoil(&a.tree)
			turned(a.bytes)
			spoilSkips(a.skips)
			v, _, _ := loose.Merge(s, name, x, y)
			spoil(&v)
			_, trail, _ := loose.Merge(s, name, x, one(3, one(3, num(1))))
			for i := range trail[:cap(trail)] {
				trail[:cap(trail)][i] = -9
			}
			holds(t, b, kept, want)
			if wholly(kept.tree) != before || wholly(x)+wholly(y)+wholly(both) != told {
				t.Fatalf("P2: what is done with one answer is seen in another: %s, want %s", short(kept.tree), short(want.tree))
			}
			reads(t, s, name, b, want.tree, want.skips...)
		}
	}
}

func TestListsApart(t *testing.T) { // P2: who adds to a list of an answer, or changes one, changes no other list of it
	s := wideSchema()
	b := rows(
		record(repeated+api.TInt32, row("01 02 03")), record(repeated+api.TUint32, row("01 02 03 04 05")),
		record(repeated+api.TString, []byte("a")), record(repeated+api.TString, []byte("b")), record(repeated+api.TString, []byte("c")), record(repeated+api.TBytes, []byte("a")),
		record(repeated+api.TMessage, row("18 01")), record(repeated+api.TMessage), record(repeated+api.TMessage, row("18 01 20 02 28 03")),
		record(mapped+api.TInt32, row("0a 00 10 01")), record(mapped+api.TInt32, row("0a 01 61 10 02")), record(mapped+api.TInt32, row("0a 01 62 10 03")),
	)
	want := secondly(s, "w.W", b).tree
	half := one(repeated+api.TString, list(text("a")))
	for i := range want.Fields {
		v, _, e := loose.Decode(s, "w.W", b)
		w, _, f := loose.Merge(s, "w.W", want, msg())
		if e != api.OK || f != api.OK || !same(v, want) || !same(w, want) {
			t.Fatalf("P1101: %s, %v, %s, %v", short(v), e, short(w), f)
		}
		for _, v := range []api.Value{v, w} {
			in := &v.Fields[i].Value
			in.List = append(in.List, num(9), num(9), num(9))
			spoil(in)
			for j := range want.Fields {
				if j != i && !same(v.Fields[j].Value, want.Fields[j].Value) {
					t.Errorf("P2: what is done with the field %d is seen in %d", v.Fields[i].Number, want.Fields[j].Number)
				}
			}
		}
	}
	// A list of both trees in room that one of them had.
	room := make([]api.Value, 1, 8)
	room[0] = text("a")
	x := one(repeated+api.TString, api.Value{Kind: api.VList, List: room})
	merges(t, s, "w.W", x, half, one(repeated+api.TString, list(text("a"), text("a"))))
	if !same(room[:2][1], api.Value{}) {
		t.Errorf("P2: the spare room of a list that was handed in is written to")
	}
}

func TestNilAndEmpty(t *testing.T) { // P2: nil and empty lists are the same
	s := wideSchema()
	for _, name := range s.Messages() {
		reads(t, s, name, nil, msg())
		reads(t, s, name, []byte{}, msg())
		reads(t, s, name, roomy(nil), msg())
		empty := api.Value{Kind: api.VMessage, List: []api.Value{}, Fields: []api.Entry{}}
		merges(t, s, name, empty, msg(), msg())
		merges(t, s, name, msg(), empty, msg())
	}
	number := api.Value{Kind: api.VNum, Num: 1, List: []api.Value{}, Fields: []api.Entry{}}
	merges(t, s, "w.W", one(3, number), one(4, number), msg(at(3, num(1)), at(4, num(1))))
}

func TestLittleKept(t *testing.T) { // P2: an answer holds no more than what is in it, however many bytes stood beside that
	s := smallSchema()
	b := rows(record(7, record(2, []byte("abc")), record(unknown, make([]byte, 1<<19))), record(unknown, make([]byte, 1<<18)))
	used := func() uint64 {
		var m runtime.MemStats
		runtime.GC()
		runtime.ReadMemStats(&m)
		return m.HeapAlloc
	}
	before := used()
	var kept []api.Value
	for range 100 {
		v, _, _ := loose.Decode(s, "p.M", b)
		kept = append(kept, v)
	}
	if after := used(); after > before+10<<20 {
		t.Errorf("P2: 100 small answers hold %d bytes", after-before)
	}
	runtime.KeepAlive(kept)
}
