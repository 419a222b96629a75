package view_test

import (
	"bytes"
	"runtime"
	"slices"
	"testing"
	"unsafe"

	"sigil/api"
	"sigil/path"
	"sigil/view"
)

// lentBytes are bytes with spare room that is filled, with what would go on.
func lentBytes(b []byte) []byte {
	return append(slices.Clone(b), row("08 01 61 00 ff 80 61 61 61 61")...)[:len(b)]
}

// lentText is a text over bytes that can be changed behind the program's back.
func lentText(s string) (string, []byte) {
	b := []byte(s)
	return unsafe.String(unsafe.SliceData(b), len(b)), b
}

// turned turns all bits over, those of the spare room too.
func turned(b []byte) {
	for i := range b[:cap(b)] {
		b[:cap(b)][i] ^= 0xff
	}
}

// spoil writes over the lists of a tree, their spare room too.
func spoil(v *api.Value) {
	l, f := v.List[:cap(v.List)], v.Fields[:cap(v.Fields)]
	for i := range l {
		spoil(&l[i])
		l[i] = api.Value{Kind: 9, Num: -7, Text: "spoilt"}
	}
	for i := range f {
		spoil(&f[i].Value)
		f[i] = api.Entry{Number: -9, Value: api.Value{Kind: 9, Num: -7, Text: "spoilt"}}
	}
}

func TestNotChanged(t *testing.T) { // P2: the bytes that are handed in are not changed, their spare room neither; nor is that room seen
	for _, q := range []second{ofWide(), ofSmall()} {
		for seed := range int64(200) {
			m := newMaker(seed)
			m.rare = pick(m, 0, 30)
			b := m.message("w.W", 4)
			in := lentBytes(b)
			before := slices.Clone(in[:cap(in)])
			v, place, e := view.Open(q.s, q.top, in)
			if !bytes.Equal(in[:cap(in)], before) {
				t.Fatalf("P2: % x is changed to % x", before, in[:cap(in)])
			}
			_, at, want := split(b, 1, ofMessage(q.s, q.top))
			if e != want || place != at || (v == nil) != (want != api.OK) {
				t.Fatalf("P2108: %s: %v at %d, want %v at %d", some(b), e, place, want, at)
			}
			if v == nil {
				continue
			}
			g := glass{v, q.s, q.top, b}
			for range 5 {
				if p, e := path.Print(q.s, q.top, m.steps(q, q.top, b)); e == api.OK {
					tellsAll(g, p)
				}
			}
			if !bytes.Equal(in[:cap(in)], before) {
				t.Fatalf("P2: the questions change % x to % x", before, in[:cap(in)])
			}
		}
	}
}

func TestNotKept(t *testing.T) { // P2, P2108: neither the bytes nor the name nor a path is kept: who writes over them changes no answer, of the view, of the views that it answered, of the sequences
	q := ofWide()
	for seed := range int64(250) {
		for _, name := range q.s.Messages() {
			m := newMaker(seed)
			m.rare = pick(m, 0, 0, 30)
			b := m.message(name, 4)
			want := open(t, q.s, name, b)
			in := lentBytes(b)
			typ, lent := lentText(name)
			v, _, e := view.Open(q.s, typ, in)
			if e != api.OK {
				t.Fatal(e)
			}
			g := glass{v, q.s, name, b}
			turned(in)
			turned(lent)
			for range 5 {
				p, e := path.Print(q.s, name, m.steps(q, name, b))
				if e != api.OK {
					continue
				}
				again, lent := lentText(p)
				all, _ := v.Each(again)
				inner, _, _ := v.At(again)
				got, ok, _ := v.Get(again)
				turned(lent)
				w, there, _ := want.Get(p)
				if ok != there || !same(got, w) {
					t.Fatalf("P2: Get(%.100q) is changed by who changes what was handed in: %s, want %s", p, short(got), short(w))
				}
				if x, y := tellsAll(g, p), tellsAll(want, p); x != y {
					t.Fatalf("P2: at %.100q: %.300s, want %.300s", p, x, y)
				}
				if inner != nil {
					b, _, _ := inner.Bytes("")
					if c, _, _ := want.Bytes(p); !bytes.Equal(b, c) {
						t.Fatalf("P2: At(%.100q): %s, want %s", p, some(b), some(c))
					}
				}
				if all != nil {
					other, _ := want.Each(p)
					if x, y := told(all, -1), told(other, -1); !slices.Equal(x, y) {
						t.Fatalf("P2: Each(%.100q): %q, want %q", p, x, y)
					}
				}
			}
		}
	}
}

func TestOwnAnswers(t *testing.T) { // P2: who writes over an answer, its spare room too, changes no other answer
	q := ofWide()
	for seed := range int64(250) {
		m := newMaker(seed)
		b := m.message("w.W", 4)
		g := open(t, q.s, "w.W", b)
		for range 8 {
			p, e := path.Print(q.s, "w.W", m.steps(q, "w.W", b))
			if e != api.OK {
				continue
			}
			want := tellsAll(g, p)
			before, _, _ := g.Get("")
			kept := short(before)
			for range 2 {
				v, _, _ := g.Get(p)
				spoil(&v)
				content, _, _ := g.Bytes(p)
				turned(content)
				whole, _, _ := g.Bytes("")
				turned(whole)
				if in, _, _ := g.At(p); in != nil {
					own, _, _ := in.Bytes("")
					turned(own)
					x, _, _ := in.Get("")
					spoil(&x)
				}
				if all, _ := g.Each(p); all != nil {
					for st, in := range all {
						st.Key = text("spoilt")
						if in != nil {
							own, _, _ := in.Bytes("")
							turned(own)
						}
					}
				}
			}
			if got := tellsAll(g, p); got != want {
				t.Fatalf("P2: behind answers that were written over, at %.100q: %.300s, want %.300s", p, got, want)
			}
			if short(before) != kept {
				t.Fatalf("P2: what is done with one answer is seen in another: %s, want %s", short(before), kept)
			}
		}
	}
}

// stretch is a piece of memory.
type stretch struct{ from, to uintptr }

// stretchOf is the memory of a list, its spare room too.
func stretchOf[T any](l []T) stretch {
	var one T
	from := uintptr(unsafe.Pointer(unsafe.SliceData(l)))
	return stretch{from, from + uintptr(cap(l))*unsafe.Sizeof(one)}
}

// stretches are the memory of all lists of a tree.
func stretches(v api.Value) []stretch {
	l := []stretch{stretchOf(v.List), stretchOf(v.Fields)}
	for _, in := range v.List {
		l = append(l, stretches(in)...)
	}
	for _, in := range v.Fields {
		l = append(l, stretches(in.Value)...)
	}
	return l
}

func TestNotShared(t *testing.T) { // P2: no two lists of the answers share memory, their spare room neither; nor do they share it with what was handed in
	q := ofWide()
	for seed := range int64(150) {
		m := newMaker(seed)
		b := m.message("w.W", 5)
		in := lentBytes(b)
		v, _, e := view.Open(q.s, "w.W", in)
		if e != api.OK {
			t.Fatal(e)
		}
		kept, l := []any{in, v}, []stretch{stretchOf(in)}
		paths := []string{"", "", "s17", "r17"}
		for range 6 {
			if p, e := path.Print(q.s, "w.W", m.steps(q, "w.W", b)); e == api.OK {
				paths = append(paths, p)
			}
		}
		for _, p := range paths {
			for range 2 {
				got, _, _ := v.Get(p)
				content, _, _ := v.Bytes(p)
				kept = append(kept, got, content)
				l = append(append(l, stretches(got)...), stretchOf(content))
				if inner, _, _ := v.At(p); inner != nil {
					own, _, _ := inner.Bytes("")
					kept, l = append(kept, own), append(l, stretchOf(own))
				}
			}
		}
		l = slices.DeleteFunc(l, func(s stretch) bool { return s.from == s.to })
		slices.SortFunc(l, func(a, b stretch) int { return int(a.from) - int(b.from) })
		for i := 1; i < len(l); i++ {
			if l[i-1].to > l[i].from {
				t.Fatal("P2: two lists share memory")
			}
		}
		runtime.KeepAlive(kept)
	}
}

func TestBytesOwn(t *testing.T) { // P2105, P2: bytes that are handed out are their own, their spare room too: of one piece and of several, of the view's own
	for _, c := range []struct{ b, p, want string }{
		{"3a 02 08 05", "g", "08 05"}, {"3a 02 08 05 3a 02 12 00", "g", "08 05 12 00"}, {"08 05 12 01 78", "", "08 05 12 01 78"}, {"22 07 0a 01 6b 12 02 08 05", `d["k"]`, "08 05"}, {"3a 00", "g", ""}, {"", "", ""},
	} {
		v := opens(t, c.b)
		for range 3 {
			x, _, _ := v.Bytes(c.p)
			y, _, _ := v.Bytes(c.p)
			turned(x)
			x = append(x, 0xff, 0xff, 0xff)
			turned(x)
			if !bytes.Equal(y, row(c.want)) {
				t.Errorf("P2105: %s: Bytes(%q) = %s, want %s", c.b, c.p, some(y), c.want)
			}
			if again, ok, e := v.Bytes(c.p); !bytes.Equal(again, row(c.want)) || !ok || e != api.OK {
				t.Errorf("P2105: %s: Bytes(%q) = %s, %v, %v, want %s", c.b, c.p, some(again), ok, e, c.want)
			}
		}
	}
}

func TestLittleKept(t *testing.T) { // P2: what is answered, a view too, holds no more than what is in it, however many bytes stand beside that
	b := rows(record(7, record(2, []byte("abc"))), record(unknown, make([]byte, 1<<19)), record(4, row("0a 01 6b"), record(unknown, make([]byte, 1<<18))))
	used := func() uint64 {
		var m runtime.MemStats
		runtime.GC()
		runtime.ReadMemStats(&m)
		return m.HeapAlloc
	}
	before := used()
	var kept []any
	for range 100 {
		v, _, e := view.Open(smallSchema(), "p.M", b)
		if e != api.OK {
			t.Fatal(e)
		}
		x, _, _ := v.Get("g.b")
		y, _, _ := v.Get("g")
		kept = append(kept, x, y)
		in, _, _ := v.At("g")
		kept = append(kept, in)
		all, _ := v.Each("d")
		for st, in := range all {
			kept = append(kept, st, in)
		}
	}
	if after := used(); after > before+10<<20 {
		t.Errorf("P2: 100 small answers hold %d bytes", after-before)
	}
	runtime.KeepAlive(kept)
}

func TestNilAndEmpty(t *testing.T) { // P2: nil and empty lists are the same
	for _, b := range [][]byte{nil, {}, lentBytes(nil)} {
		v, _, e := view.Open(wideSchema(), "w.W", b)
		if e != api.OK {
			t.Fatal(e)
		}
		g := glass{v, wideSchema(), "w.W", nil}
		g.message(t, "", msg(), "")
		g.many(t, "r3", nil, 0)
	}
}
