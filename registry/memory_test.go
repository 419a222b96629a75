package registry_test

import (
	"bytes"
	"fmt"
	"runtime"
	"slices"
	"testing"
	"unsafe"

	"sigil/api"
	"sigil/registry"
)

// lentBytes is a copy of bytes with spare room that is filled; all that were lent are told.
func lentBytes(b []byte, lot *[][]byte) []byte {
	b = append(slices.Clone(b), "spare room"...)[:len(b)]
	*lot = append(*lot, b)
	return b
}

// lentText is a text over bytes that can be changed behind the program's back.
func lentText(s string, lot *[][]byte) string {
	b := lentBytes([]byte(s), lot)
	if len(b) == 0 {
		return ""
	}
	return unsafe.String(&b[0], len(b))
}

// lent is a step that can be changed so.
func (s step) lent(lot *[][]byte) step {
	out := s
	out.subject, out.name, out.bytes, out.files = lentText(s.subject, lot), lentText(s.name, lot), lentBytes(s.bytes, lot), nil
	for _, f := range s.files {
		out.files = append(out.files, api.Source{Name: lentText(f.Name, lot), Text: lentText(f.Text, lot)})
	}
	out.files = append(out.files, api.Source{Name: "room", Text: "room"})[:len(s.files)]
	return out
}

// wholly tells what was lent, with the spare room of all.
func (s step) wholly(lot [][]byte) string {
	told := fmt.Sprintf("%+v %+v", s, s.files[:cap(s.files)])
	for _, b := range lot {
		told += fmt.Sprint(b[:cap(b)])
	}
	return told
}

// spoilAll writes over a list, its spare room too.
func spoilAll[T any](l []T, with T) {
	l = l[:cap(l)]
	for i := range l {
		l[i] = with
	}
}

// spoilBytes turns all bits over, those of the spare room too.
func spoilBytes(lot ...[]byte) {
	for _, b := range lot {
		b = b[:cap(b)]
		for i := range b {
			b[i] ^= 0xff
		}
	}
}

// spoil writes over the lists of a tree, their spare room too.
func spoil(v *api.Value) {
	l, f := v.List[:cap(v.List)], v.Fields[:cap(v.Fields)]
	for i := range l {
		spoil(&l[i])
		l[i] = api.Value{Kind: 9, Num: -7, Text: "spoilt"}
	}
	for i := range f {
		spoil(&f[i].Value)
		f[i] = api.Entry{Number: -9, Value: api.Value{Kind: 9, Num: -7, Text: "spoilt"}}
	}
}

// spoil writes over all that is answered.
func (a answer) spoil() {
	spoilAll(a.broken.Path, -7)
	spoilAll(a.version.Files, api.Source{Name: "spoilt", Text: "spoilt"})
	spoilBytes(a.version.Print, a.log)
	spoilAll(a.places, api.Place{Subject: "spoilt", Version: -7})
	for _, s := range a.list {
		spoilAll(s.Versions, -7)
	}
	spoilAll(a.list, api.Subject{Name: "spoilt"})
	spoil(&a.value)
}

func TestNotChanged(t *testing.T) { // P2: what is handed in is not changed, its spare room neither; nor is that room seen
	for _, l := range scripts(t, 5000, 30) {
		want := answers(t, l)
		r := open(t)
		for i, s := range l {
			var lot [][]byte
			in := s.lent(&lot)
			before := in.wholly(lot)
			if got := in.do(r).told(); got != want[i] {
				t.Fatalf("P2: with spare room: %.300s, want %.300s", got, want[i])
			}
			if in.wholly(lot) != before {
				t.Fatal("P2: what was handed in is changed")
			}
		}
		var lot [][]byte
		in := lentBytes(r.Log(), &lot)
		before := bytes.Clone(in[:cap(in)])
		if q, n, e := registry.Open(in); e != api.OK || n != len(in) || !bytes.Equal(q.Log(), in) || !bytes.Equal(in[:cap(in)], before) {
			t.Fatalf("P2: a log that was handed in is changed: %d, %v", n, e)
		}
	}
}

func TestNotKept(t *testing.T) { // P2: who changes what was handed in changes no answer, nor what is answered later
	for _, l := range scripts(t, 5100, 30) {
		want := answers(t, l)
		var lot [][]byte
		r := open(t)
		var got []answer
		for i, s := range l {
			got = append(got, s.lent(&lot).do(r))
			spoilBytes(lot...)
			lot = nil
			if i%10 == 9 { // and of what it was opened by
				log := lentBytes(r.Log(), &lot)
				r, _, _ = registry.Open(log)
				spoilBytes(lot...)
				lot = nil
			}
		}
		for i, a := range got {
			if a.told() != want[i] {
				t.Fatalf("P2: who changes what was handed in changes an answer: %.300s, want %.300s", a.told(), want[i])
			}
		}
		if fmt.Sprint(r.Log()) != want[len(l)] {
			t.Fatal("P2: who changes what was handed in changes the log")
		}
	}
}

func TestFilesNotKept(t *testing.T) { // P2: nor does who changes the list of files, behind a Register or a Try
	r := open(t)
	files := slices.Clone(two)
	r.Try("s", files, "A")
	r.Register("s", files, "A")
	want, _ := r.Get("s", 1)
	spoilAll(files, api.Source{Name: "spoilt"})
	if got, e := r.Get("s", 1); e != api.OK || !sameVersion(got, want) {
		t.Errorf("P2: %v, %v", got, e)
	}
}

func TestWrittenOver(t *testing.T) { // P2: who writes over an answer, its spare room too, changes nothing that is answered later
	for _, l := range scripts(t, 5200, 30) {
		want := answers(t, l)
		r := open(t)
		for i, s := range l {
			a := s.do(r)
			if a.told() != want[i] {
				t.Fatalf("P2: what is done with an answer is seen in the next: %.300s, want %.300s", a.told(), want[i])
			}
			a.spoil()
			r.Log()[0]++
		}
		if fmt.Sprint(r.Log()) != want[len(l)] {
			t.Fatal("P2: what is done with an answer is seen in the log")
		}
	}
}

// stretch is a piece of memory.
type stretch struct{ from, to uintptr }

// stretchOf is the memory of a list, its spare room too.
func stretchOf[T any](l []T) stretch {
	var one T
	from := uintptr(unsafe.Pointer(unsafe.SliceData(l)))
	return stretch{from, from + uintptr(cap(l))*unsafe.Sizeof(one)}
}

// stretches are the memory of all lists of a tree.
func stretches(v api.Value) []stretch {
	l := []stretch{stretchOf(v.List), stretchOf(v.Fields)}
	for _, in := range v.List {
		l = append(l, stretches(in)...)
	}
	for _, in := range v.Fields {
		l = append(l, stretches(in.Value)...)
	}
	return l
}

// stretches are the memory of all lists that are answered.
func (a answer) stretches() []stretch {
	l := []stretch{stretchOf(a.broken.Path), stretchOf(a.version.Files), stretchOf(a.version.Print), stretchOf(a.places), stretchOf(a.list), stretchOf(a.log)}
	for _, s := range a.list {
		l = append(l, stretchOf(s.Versions))
	}
	return append(l, stretches(a.value)...)
}

// apart looks whether no two pieces of memory have a byte in common.
func apart(t *testing.T, l []stretch) {
	t.Helper()
	l = slices.DeleteFunc(l, func(s stretch) bool { return s.to == s.from })
	slices.SortFunc(l, func(a, b stretch) int { return int(a.from) - int(b.from) })
	for i := 1; i < len(l); i++ {
		if l[i-1].to > l[i].from {
			t.Fatal("P2: two lists share memory")
		}
	}
}

func TestNotShared(t *testing.T) { // P2: no two lists of the answers share memory, their spare room neither; nor do they share it with what was handed in
	for _, l := range scripts(t, 5300, 30) {
		r := open(t)
		var kept []any
		var all []stretch
		for _, s := range l {
			var lot [][]byte
			in := s.lent(&lot)
			for range 2 {
				a := in.do(r)
				kept = append(kept, a)
				all = append(all, a.stretches()...)
			}
			for _, b := range lot {
				all = append(all, stretchOf(b))
			}
			all = append(all, stretchOf(in.files))
			kept = append(kept, in, lot)
		}
		apart(t, all)
		runtime.KeepAlive(kept)
	}
}

func TestNilAndEmpty(t *testing.T) { // P2: nil and empty lists are the same
	for _, log := range [][]byte{nil, {}} {
		x := holds(t, log, 0)
		x.registers("s", fileA, "M", 1, api.OK)
		x.refuses("s", nil, "M", api.ErrName)
		x.refuses("s", []api.Source{}, "M", api.ErrName)
		x.reads("s", 1, 1, nil, msg(), api.OK)
		x.reads("s", 1, 1, []byte{}, msg(), api.OK)
	}
}

func TestLittleKept(t *testing.T) { // P2: what is asked and refused is not kept
	used := func() uint64 {
		var m runtime.MemStats
		runtime.GC()
		runtime.ReadMemStats(&m)
		return m.HeapAlloc
	}
	r := open(t)
	r.Register("s", fileC, "M")
	big := sized(1, 200000)
	big[0].Text += " message N { int32 a = 1; }"
	message := bytes.Repeat([]byte("\x0a\x00"), 1<<18)
	before := used()
	for range 40 {
		r.Try("s", big, "pa.N")
		r.Register("s", big, "pa.N")
		r.Register("s", big, "M")
		r.Read("s", 1, 1, message)
		r.Get("s", 1)
		r.Log()
	}
	if after := used(); after > before+2<<20 {
		t.Errorf("P2: what was asked holds %d bytes", after-before)
	}
	if l := r.List(); len(l) != 1 || len(l[0].Versions) != 1 {
		t.Errorf("P1801: %v", l)
	}
}
