package tree_test

import (
	"fmt"
	"runtime"
	"slices"
	"sync"
	"testing"
	"unsafe"

	"sigil/api"
	"sigil/tree"
)

// held is a copy of a tree that can be changed behind the program's back: its lists have spare room that is filled, its texts lie over bytes of which all are told.
func held(v api.Value, texts *[][]byte) api.Value {
	if v.Text != "" {
		b := []byte(v.Text)
		v.Text = unsafe.String(&b[0], len(b))
		*texts = append(*texts, b)
	}
	list := make([]api.Value, 0, len(v.List)+2)
	for _, in := range v.List {
		list = append(list, held(in, texts))
	}
	fields := make([]api.Entry, 0, len(v.Fields)+2)
	for _, in := range v.Fields {
		fields = append(fields, at(in.Number, held(in.Value, texts)))
	}
	v.List, v.Fields = list, fields
	for i := range 2 {
		list[:cap(list)][len(list)+i] = text("room")
		fields[:cap(fields)][len(fields)+i] = at(77, text("room"))
	}
	return v
}

// whole tells a tree with the spare room of its lists.
func whole(v api.Value) string {
	s := fmt.Sprintf("%d %d %q [", v.Kind, v.Num, v.Text)
	for _, in := range v.List[:cap(v.List)] {
		s += whole(in) + ","
	}
	s += "] {"
	for _, in := range v.Fields[:cap(v.Fields)] {
		s += fmt.Sprint(in.Number, ":", whole(in.Value), ",")
	}
	return s + "}"
}

// asked makes all calls of a tree, and tells what they answer.
func asked(v, other api.Value) string {
	s := wideSchema()
	at1, e1 := tree.Typed(s, "w.W", v)
	at2, e2 := tree.Normal(s, "w.W", v)
	n, at3, e3 := tree.Normalise(s, "w.W", v)
	k, at4, e4 := tree.Size(s, "w.W", v)
	q, e5 := tree.Walk(s, "w.W", v)
	var l []told
	if q != nil {
		l = first(q, -1)
	}
	return fmt.Sprint(at1, e1, at2, e2, short(n), n, at3, e3, k, at4, e4, l, e5, tree.Equal(v, other), tree.Compare(v, other), tree.Compare(other, v), tree.Keys(api.TString, v, other), tree.Keys(0, v, other), tree.Depth(v))
}

func TestNotChanged(t *testing.T) { // P2: what is handed in is not changed, its spare room neither
	for seed := range int64(300) {
		l := made(seed)
		for i, v := range l {
			var texts [][]byte
			in, other := held(v, &texts), held(l[(i+1)%len(l)], &texts)
			before, beforeOther := whole(in), whole(other)
			want := asked(v, l[(i+1)%len(l)])
			if got := asked(in, other); got != want {
				t.Fatalf("P2: what lists have as spare room is seen: %s, want %s", got, want)
			}
			if whole(in) != before || whole(other) != beforeOther {
				t.Fatalf("P2: what was handed in is changed: %s", whole(in))
			}
		}
	}
}

func TestNotKept(t *testing.T) { // P2: what is handed in is not kept, texts neither
	s := wideSchema()
	name := []byte("w.W")
	for seed := range int64(300) {
		for _, v := range made(seed) {
			if loose, _ := secondCheck("w.W", v); loose.e != api.OK {
				continue
			}
			want, _, _ := tree.Normalise(s, "w.W", v)
			var texts [][]byte
			in := held(v, &texts)
			copy(name, "w.W")
			got, _, _ := tree.Normalise(s, unsafe.String(&name[0], 3), in)
			q, e := tree.Walk(s, unsafe.String(&name[0], 3), in)
			if e != api.OK {
				t.Fatalf("P810: Walk answers %v", e)
			}
			copy(name, "???")
			for _, b := range texts {
				for i := range b {
					b[i] ^= 0x55
				}
			}
			spoilValue(&in)
			if !same(got, want) {
				t.Fatalf("P2: Normalise keeps what was handed in: %s, want %s", short(got), short(want))
			}
			if l := first(q, -1); !same(l, secondWalk(nil, v)) {
				t.Fatalf("P2: Walk keeps what was handed in: %v", l)
			}
		}
	}
}

// stretch is a piece of memory.
type stretch struct{ from, to uintptr }

// stretches are the pieces of memory of all lists that hang on a value, their spare room too.
func stretches(v api.Value) []stretch {
	var l []stretch
	if cap(v.List) > 0 {
		from := uintptr(unsafe.Pointer(unsafe.SliceData(v.List)))
		l = append(l, stretch{from, from + uintptr(cap(v.List))*unsafe.Sizeof(api.Value{})})
	}
	if cap(v.Fields) > 0 {
		from := uintptr(unsafe.Pointer(unsafe.SliceData(v.Fields)))
		l = append(l, stretch{from, from + uintptr(cap(v.Fields))*unsafe.Sizeof(api.Entry{})})
	}
	for _, in := range v.List {
		l = append(l, stretches(in)...)
	}
	for _, in := range v.Fields {
		l = append(l, stretches(in.Value)...)
	}
	return l
}

func TestNotShared(t *testing.T) { // P2: no two lists that are handed out share memory, nor one with what was handed in
	s := wideSchema()
	for seed := range int64(300) {
		for _, v := range made(seed) {
			n, _, e := tree.Normalise(s, "w.W", v)
			if e != api.OK {
				continue
			}
			again, _, _ := tree.Normalise(s, "w.W", v)
			// What was handed in may share memory with itself: its copy does not.
			in := copied(v)
			third, _, _ := tree.Normalise(s, "w.W", in)
			l := slices.Concat(stretches(n), stretches(again), stretches(third), stretches(in))
			q, _ := tree.Walk(s, "w.W", in)
			all := first(q, -1)
			for _, told := range all {
				l = append(l, stretches(told.v)...)
				if cap(told.at) > 0 {
					from := uintptr(unsafe.Pointer(unsafe.SliceData(told.at)))
					l = append(l, stretch{from, from + uintptr(cap(told.at))*8})
				}
			}
			slices.SortFunc(l, func(a, b stretch) int { return int(a.from) - int(b.from) })
			for i := 1; i < len(l); i++ {
				if l[i-1].to > l[i].from {
					t.Fatalf("P2: two lists share memory: %s", short(v))
				}
			}
			// None of them was freed ahead of the others.
			for _, kept := range []any{n, again, third, in, all} {
				runtime.KeepAlive(kept)
			}
		}
	}
}

func TestTrailsNotShared(t *testing.T) { // P2: trails that are told beside errors are new memory
	s := wideSchema()
	v := chain(70, api.TMessage, one(1, num(0)))
	wrong := chain(70, api.TMessage, one(18, num(0)))
	for range 2 {
		for _, c := range []struct {
			got  func() []int
			want []int
		}{
			{func() []int { l, _ := tree.Typed(s, "w.W", v); return l }, times(64, api.TMessage)},
			{func() []int { l, _ := tree.Normal(s, "w.W", v); return l }, append(times(70, api.TMessage), 1)},
			{func() []int { _, l, _ := tree.Normalise(s, "w.W", v); return l }, times(64, api.TMessage)},
			{func() []int { _, l, _ := tree.Size(s, "w.W", wrong); return l }, append(times(70, api.TMessage), 18)},
		} {
			l := c.got()
			if !slices.Equal(l, c.want) {
				t.Errorf("P2: a trail is %v, want %v", l, c.want)
			}
			l = l[:cap(l)]
			for i := range l {
				l[i] = -7
			}
		}
	}
}

func TestBeside(t *testing.T) { // P3: the same again, whatever was asked between, and at the same time
	var l []api.Value
	for seed := range int64(40) {
		l = append(l, made(seed)...)
	}
	var before []string
	for i, v := range l {
		before = append(before, asked(v, l[(i+7)%len(l)]))
	}
	var wait sync.WaitGroup
	for range 4 {
		wait.Go(func() {
			for i, v := range l {
				if got := asked(v, l[(i+7)%len(l)]); got != before[i] {
					t.Errorf("P3: %s, before it was %s", got, before[i])
				}
			}
		})
	}
	wait.Wait()
}

func TestOtherSchemas(t *testing.T) { // P3: two schemas with the same names, asked in turn
	one1 := load(t, `syntax = "proto3"; message M { int32 a = 1; }`)
	two := load(t, `syntax = "proto3"; message M { string a = 1; oneof o { bool b = 2; bool c = 3; } }`)
	for range 2 {
		check(t, one1, "M", one(1, num(5)), fine(), fine())
		check(t, two, "M", one(1, num(5)), fault(api.ErrType, 1), fault(api.ErrType, 1))
		check(t, two, "M", one(1, text("x")), fine(), fine())
		check(t, one1, "M", one(1, text("x")), fault(api.ErrType, 1), fault(api.ErrType, 1))
		check(t, one1, "M", one(2, num(1)), fault(api.ErrType, 2), fault(api.ErrType, 2))
		check(t, two, "M", one(2, num(1)), fine(), fine())
	}
}
