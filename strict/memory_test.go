package strict_test

import (
	"bytes"
	"fmt"
	"runtime"
	"slices"
	"testing"
	"unsafe"

	"sigil/api"
	"sigil/strict"
)

// roomy are bytes with spare room that is filled: with what would go on.
func roomy(b []byte) []byte {
	all := append(slices.Clone(b), row("08 01 61 00 ff 80 61 61 61 61 61 61")...)
	return all[:len(b)]
}

// wholly tells a tree with the spare room of its lists.
func wholly(v api.Value) string {
	s := fmt.Sprintf("%d %d %q [", v.Kind, v.Num, v.Text)
	for _, in := range v.List[:cap(v.List)] {
		s += wholly(in) + ","
	}
	s += "] {"
	for _, in := range v.Fields[:cap(v.Fields)] {
		s += fmt.Sprint(in.Number, ":", wholly(in.Value), ",")
	}
	return s + "}"
}

// spoil writes over the lists of a tree, their spare room too.
func spoil(v *api.Value) {
	l, f := v.List[:cap(v.List)], v.Fields[:cap(v.Fields)]
	for i := range l {
		spoil(&l[i])
		l[i] = api.Value{Kind: 9, Num: -7, Text: "spoilt"}
	}
	for i := range f {
		spoil(&f[i].Value)
		f[i] = api.Entry{Number: -9, Value: api.Value{Kind: 9, Num: -7, Text: "spoilt"}}
	}
}

// bytesOf are made rows of a seed: the canonical bytes of a tree, these broken.
func bytesOf(seed int64, name string) [][]byte {
	m := newMaker(seed)
	v := m.normal(name)
	l := [][]byte{m.written(name, v)}
	for _, m.rare = range []int{60, 10} {
		l = append(l, m.written(name, v))
	}
	return l
}

func TestNotChanged(t *testing.T) { // P2: what is handed in is not changed, its spare room neither; nor is that room seen
	s := wideSchema()
	for seed := range int64(500) {
		for _, name := range s.Messages() {
			for _, b := range bytesOf(seed, name) {
				in := roomy(b)
				before := slices.Clone(in[:cap(in)])
				v, p, e := strict.Decode(s, name, in)
				q, f := strict.Check(s, name, in)
				if !bytes.Equal(in[:cap(in)], before) {
					t.Fatalf("P2: % x is changed to % x", before, in[:cap(in)])
				}
				want, bad := secondly(s, name, b)
				if !same(v, want) || p != bad.at || q != bad.at || e != bad.err || f != bad.err {
					t.Fatalf("P2: with spare room % x is read as %s, %d, %v", b, short(v), p, e)
				}
			}
		}
	}
}

func TestNotKept(t *testing.T) { // P2: what is handed in is not kept, neither the bytes nor the name: who changes them changes no answer
	s := wideSchema()
	memory := make([]byte, 3)
	name := unsafe.String(&memory[0], 3)
	for seed := range int64(400) {
		for _, right := range s.Messages() {
			copy(memory, right)
			b := roomy(bytesOf(seed, right)[0])
			want, _ := secondly(s, right, b)
			v, _, e := strict.Decode(s, name, b)
			if e != api.OK {
				t.Fatalf("P1001: % x: %v", b, e)
			}
			copy(memory, "???")
			for i := range b[:cap(b)] {
				b[:cap(b)][i] ^= 0x55
			}
			if !same(v, want) {
				t.Fatalf("P2: an answer is changed by who changes what was handed in: %s, want %s", short(v), short(want))
			}
			if _, _, e := strict.Decode(s, name, nil); e != api.ErrName {
				t.Fatalf("P2: the name was kept: %v", e)
			}
		}
	}
}

// stretch is a piece of memory.
type stretch struct{ from, to uintptr }

// stretchOf is the memory of a list, its spare room too.
func stretchOf[T any](l []T) stretch {
	var one T
	from := uintptr(unsafe.Pointer(unsafe.SliceData(l)))
	return stretch{from, from + uintptr(cap(l))*unsafe.Sizeof(one)}
}

// stretches are the memory of all lists and texts of a tree.
func stretches(v api.Value) []stretch {
	var l []stretch
	if cap(v.List) > 0 {
		l = append(l, stretchOf(v.List))
	}
	if cap(v.Fields) > 0 {
		l = append(l, stretchOf(v.Fields))
	}
	if len(v.Text) > 0 {
		l = append(l, stretchOf(unsafe.Slice(unsafe.StringData(v.Text), len(v.Text))))
	}
	for _, in := range v.List {
		l = append(l, stretches(in)...)
	}
	for _, in := range v.Fields {
		l = append(l, stretches(in.Value)...)
	}
	return l
}

func TestNotShared(t *testing.T) { // P2: no two lists of the answers share memory, their spare room neither; nor do they share it with what was handed in
	s := wideSchema()
	for seed := range int64(300) {
		var trees []api.Value
		var handed [][]byte
		var l []stretch
		for range 2 {
			for _, name := range s.Messages() {
				b := roomy(bytesOf(seed, name)[0])
				v, _, _ := strict.Decode(s, name, b)
				trees, handed = append(trees, v), append(handed, b)
				l = append(l, stretchOf(b))
			}
		}
		for _, v := range trees {
			l = append(l, stretches(v)...)
		}
		slices.SortFunc(l, func(a, b stretch) int { return int(a.from) - int(b.from) })
		for i := 1; i < len(l); i++ {
			if l[i-1].to > l[i].from {
				t.Fatalf("P2: two lists share memory")
			}
		}
		runtime.KeepAlive(trees)
		runtime.KeepAlive(handed)
	}
}

func TestWrittenOver(t *testing.T) { // P2: who writes over an answer, its spare room too, changes no other answer
	s := wideSchema()
	for seed := range int64(300) {
		for _, name := range s.Messages() {
			b := bytesOf(seed, name)[0]
			want, _ := secondly(s, name, b)
			kept, _, _ := strict.Decode(s, name, b)
			before := wholly(kept)
			v, _, _ := strict.Decode(s, name, b)
			spoil(&v)
			if !same(kept, want) || wholly(kept) != before {
				t.Fatalf("P2: what is done with one answer is seen in another: %s, want %s", short(kept), short(want))
			}
			reads(t, s, name, b, want)
		}
	}
}

func TestListsApart(t *testing.T) { // P2: who adds to a list of an answer, or changes one, changes no other list of it
	s := wideSchema()
	b := rows(
		record(repeated+api.TInt32, row("01 02 03")), record(repeated+api.TUint32, row("01 02 03 04 05")),
		record(repeated+api.TString, []byte("a")), record(repeated+api.TString, []byte("b")), record(repeated+api.TString, []byte("c")), record(repeated+api.TBytes, []byte("a")),
		record(repeated+api.TMessage, row("18 01")), record(repeated+api.TMessage), record(repeated+api.TMessage, row("18 01 20 02 28 03")),
		record(mapped+api.TInt32, row("0a 00 10 01")), record(mapped+api.TInt32, row("0a 01 61 10 02")), record(mapped+api.TInt32, row("0a 01 62 10 03")),
	)
	want, _ := secondly(s, "w.W", b)
	for i := range want.Fields {
		v, _, e := strict.Decode(s, "w.W", b)
		if e != api.OK || !same(v, want) {
			t.Fatalf("P1001: %s, %v", short(v), e)
		}
		in := &v.Fields[i].Value
		in.List = append(in.List, num(9), num(9), num(9))
		spoil(in)
		for j := range want.Fields {
			if j != i && !same(v.Fields[j].Value, want.Fields[j].Value) {
				t.Errorf("P2: what is done with the field %d is seen in %d", v.Fields[i].Number, want.Fields[j].Number)
			}
		}
	}
}

func TestNilAndEmpty(t *testing.T) { // P2: nil and empty bytes are the same
	for _, name := range wideSchema().Messages() {
		reads(t, wideSchema(), name, nil, msg())
		reads(t, wideSchema(), name, []byte{}, msg())
		reads(t, wideSchema(), name, roomy(nil), msg())
	}
}

func TestCheckMakesNoTree(t *testing.T) { // P1001: Check takes little more memory than the bytes have, of how many values they may be
	s := wideSchema()
	for name, b := range map[string][]byte{
		"a block": record(repeated+api.TBool, make([]byte, 1<<19)),
		"texts":   bytes.Repeat(record(repeated+api.TString, []byte("abcde")), 1<<16),
		"a text":  record(api.TBytes, make([]byte, 1<<19)),
	} {
		taken := func(read func()) uint64 {
			var before, after runtime.MemStats
			runtime.ReadMemStats(&before)
			read()
			runtime.ReadMemStats(&after)
			return after.TotalAlloc - before.TotalAlloc
		}
		var e api.Errno
		if n := taken(func() { _, e = strict.Check(s, "w.W", b) }); e != api.OK || n > uint64(3*len(b)) {
			t.Errorf("P1001: of %s, %d bytes: Check answers %v and takes %d bytes of memory", name, len(b), e, n)
		}
	}
}
