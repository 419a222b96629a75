package encode_test

import (
	"bytes"
	"fmt"
	"runtime"
	"slices"
	"testing"
	"unsafe"

	"sigil/api"
	"sigil/encode"
)

// held is a copy of a tree that can be changed behind the program's back: its lists have spare room that is filled, its texts lie over bytes of which all are told.
func held(v api.Value, texts *[][]byte) api.Value {
	if v.Text != "" {
		b := []byte(v.Text)
		v.Text = unsafe.String(&b[0], len(b))
		*texts = append(*texts, b)
	}
	list := make([]api.Value, 0, len(v.List)+2)
	for _, in := range v.List {
		list = append(list, held(in, texts))
	}
	fields := make([]api.Entry, 0, len(v.Fields)+2)
	for _, in := range v.Fields {
		fields = append(fields, at(in.Number, held(in.Value, texts)))
	}
	v.List, v.Fields = list, fields
	for i := range 2 {
		list[:cap(list)][len(list)+i] = text("room")
		fields[:cap(fields)][len(fields)+i] = at(77, text("room"))
	}
	return v
}

// whole tells a tree with the spare room of its lists.
func whole(v api.Value) string {
	s := fmt.Sprintf("%d %d %q [", v.Kind, v.Num, v.Text)
	for _, in := range v.List[:cap(v.List)] {
		s += whole(in) + ","
	}
	s += "] {"
	for _, in := range v.Fields[:cap(v.Fields)] {
		s += fmt.Sprint(in.Number, ":", whole(in.Value), ",")
	}
	return s + "}"
}

// spoil writes over a tree and its texts.
func spoil(v *api.Value, texts [][]byte) {
	for _, b := range texts {
		for i := range b {
			b[i] ^= 0x55
		}
	}
	for _, p := range all(v) {
		p.Kind, p.Num = 9, p.Num+1
		for i := range p.Fields {
			p.Fields[i].Number = -1
		}
	}
}

// askAll makes all calls of a tree, Field of each number that it has.
func askAll(e *encode.Encoder, name string, v api.Value) []string {
	l := []string{ask(e, 0, name, v, 0), ask(e, 1, name, v, 0), ask(e, 3, name, v, 0)}
	for _, in := range v.Fields {
		l = append(l, ask(e, 2, name, v, in.Number))
	}
	return l
}

func TestNotChanged(t *testing.T) { // P2: what is handed in is not changed, its spare room neither; nor is that room seen
	s := wideSchema()
	for seed := range int64(300) {
		for _, name := range s.Messages() {
			for _, v := range made(seed, name) {
				var texts [][]byte
				in := held(v, &texts)
				before := whole(in)
				want := askAll(encode.New(s), name, v)
				if got := askAll(encode.New(s), name, in); !slices.Equal(got, want) {
					t.Fatalf("P2: with spare room: %v, want %v", got, want)
				}
				if whole(in) != before {
					t.Fatalf("P2: what was handed in is changed: %s, it was %s", whole(in), before)
				}
			}
		}
	}
}

func TestNotKept(t *testing.T) { // P2: what is handed in is not kept: neither the tree, nor its texts, nor the name
	s := wideSchema()
	for seed := range int64(200) {
		e := encode.New(s)
		memory := make([]byte, 3)
		name := unsafe.String(&memory[0], 3)
		for i, right := range []string{"w.V", "w.W", "w.U", "w.V", "w.W"} {
			copy(memory, right)
			v := newMaker(seed + int64(i)).normal(right)
			var texts [][]byte
			in := held(v, &texts)
			b, x := e.Encode(name, in)
			l, y := e.Spans(name, in)
			var fields [][]byte
			for _, f := range in.Fields {
				part, _ := e.Field(name, in, f.Number)
				fields = append(fields, part)
			}
			copy(memory, "???")
			spoil(&in, texts)
			if x != api.OK || y != api.OK || !bytes.Equal(b, secondBytes(right, v)) || !bytes.Equal(slices.Concat(fields...), b) || len(l) != len(v.Fields) {
				t.Fatalf("P2: an answer is changed by who changes what was handed in: % x, %v", b, l)
			}
			for i, f := range v.Fields {
				if l[i].Number != f.Number {
					t.Fatalf("P2: Spans is changed by who changes what was handed in: %v", l)
				}
			}
		}
		copy(memory, "w.U") // the first name's memory now says another type's name
		for _, right := range []string{"w.U", "w.V", "w.W"} {
			v := newMaker(seed).normal(right)
			written(t, s, e, right, v, secondBytes(right, v))
		}
		if got := ask(e, 0, "???", msg(), 0); got != ask(encode.New(s), 0, "???", msg(), 0) {
			t.Fatalf("P2: a name was kept: %s", got)
		}
	}
}

// stretch is a piece of memory.
type stretch struct{ from, to uintptr }

// stretchOf is the memory of a list, its spare room too.
func stretchOf[T any](l []T) stretch {
	var one T
	from := uintptr(unsafe.Pointer(unsafe.SliceData(l)))
	return stretch{from, from + uintptr(cap(l))*unsafe.Sizeof(one)}
}

func TestNotShared(t *testing.T) { // P2: no two answers share memory, their spare room neither
	s := wideSchema()
	e := encode.New(s)
	for seed := range int64(100) {
		var rows [][]byte
		var spans [][]api.Span
		var l []stretch
		for range 2 {
			for _, name := range s.Messages() {
				v := newMaker(seed).normal(name)
				b, _ := e.Encode(name, v)
				p, _ := e.Spans(name, v)
				rows, spans = append(rows, b), append(spans, p)
				for _, f := range v.Fields {
					b, _ := e.Field(name, v, f.Number)
					rows = append(rows, b)
				}
			}
		}
		for _, b := range rows {
			l = append(l, stretchOf(b))
		}
		for _, p := range spans {
			l = append(l, stretchOf(p))
		}
		slices.SortFunc(l, func(a, b stretch) int { return int(a.from) - int(b.from) })
		for i := 1; i < len(l); i++ {
			if l[i-1].to > l[i].from {
				t.Fatalf("P2: two answers share memory")
			}
		}
		runtime.KeepAlive(rows)
		runtime.KeepAlive(spans)
	}
}

func TestWrittenOver(t *testing.T) { // P2: who writes over an answer, its spare room too, changes no other answer and no tree
	s := wideSchema()
	for seed := range int64(200) {
		for _, name := range s.Messages() {
			e := encode.New(s)
			v := newMaker(seed).normal(name)
			before := whole(v)
			for range 2 {
				want := secondBytes(name, v)
				b, _ := e.Encode(name, v)
				kept, _ := e.Encode(name, v)
				l, _ := e.Spans(name, v)
				rows := [][]byte{b}
				for _, f := range v.Fields {
					b, _ := e.Field(name, v, f.Number)
					rows = append(rows, b)
				}
				for _, b := range rows {
					b = b[:cap(b)]
					for i := range b {
						b[i] ^= 0xff
					}
				}
				for i := range l[:cap(l)] {
					l[:cap(l)][i] = api.Span{Number: -1, From: -1, To: -1}
				}
				if !bytes.Equal(kept, want) || whole(v) != before {
					t.Fatalf("P2: what is done with one answer is seen in another, or in the tree: % x, want % x", kept, want)
				}
				written(t, s, e, name, v, want)
			}
		}
	}
}

func TestNilAndEmpty(t *testing.T) { // P2: nil and empty lists are the same
	s := load(t, small)
	for _, v := range []api.Value{
		{Kind: api.VMessage, Fields: []api.Entry{}, List: []api.Value{}},
		{Kind: api.VMessage, List: []api.Value{}},
	} {
		fresh(t, s, "p.M", v)
		fresh(t, s, "p.M", one(7, v), row("3a 00"))
		fresh(t, s, "p.M", one(4, dict(kv("", v))), row("22 04 0a 00 12 00"))
	}
	number := api.Value{Kind: api.VNum, Num: 1, List: []api.Value{}, Fields: []api.Entry{}}
	fresh(t, s, "p.M", one(1, number), row("08 01"))
	fresh(t, s, "p.M", one(3, api.Value{Kind: api.VList, List: []api.Value{number}, Fields: []api.Entry{}}), row("1a 01 02"))
	refused(t, encode.New(s), "p.M", one(3, api.Value{Kind: api.VList, List: []api.Value{}}), 3, api.ErrNormal, api.ErrNormal)
}
