package json_test

import (
	"fmt"
	"runtime"
	"slices"
	"strings"
	"testing"
	"unsafe"

	"sigil/api"
	"sigil/json"
)

// lentText is a text over bytes that can be changed behind the program's back.
func lentText(s string) (string, []byte) {
	b := append([]byte(s), "spare room"...)[:len(s)]
	if len(b) == 0 {
		return "", b
	}
	return unsafe.String(&b[0], len(b)), b
}

// lent is a copy of a tree that can be changed so: its lists have spare room that is filled, its texts lie over bytes of which all are told.
func lent(v api.Value, texts *[][]byte) api.Value {
	var b []byte
	v.Text, b = lentText(v.Text)
	*texts = append(*texts, b)
	l := make([]api.Value, 0, len(v.List)+2)
	for _, in := range v.List {
		l = append(l, lent(in, texts))
	}
	fields := make([]api.Entry, 0, len(v.Fields)+2)
	for _, in := range v.Fields {
		fields = append(fields, at(in.Number, lent(in.Value, texts)))
	}
	v.List, v.Fields = l, fields
	for i := range 2 {
		l[:cap(l)][len(l)+i] = text("room")
		fields[:cap(fields)][len(fields)+i] = at(77, text("room"))
	}
	return v
}

// wholly tells a tree with the spare room of its lists.
func wholly(v api.Value) string {
	s := fmt.Sprintf("%d %d %q [", v.Kind, v.Num, v.Text)
	for _, in := range v.List[:cap(v.List)] {
		s += wholly(in) + ","
	}
	s += "] {"
	for _, in := range v.Fields[:cap(v.Fields)] {
		s += fmt.Sprint(in.Number, ":", wholly(in.Value), ",")
	}
	return s + "}"
}

// spoil writes over the lists of a tree, their spare room too.
func spoil(v *api.Value) {
	l, f := v.List[:cap(v.List)], v.Fields[:cap(v.Fields)]
	for i := range l {
		spoil(&l[i])
		l[i] = api.Value{Kind: 9, Num: -7, Text: "spoilt"}
	}
	for i := range f {
		spoil(&f[i].Value)
		f[i] = api.Entry{Number: -9, Value: api.Value{Kind: 9, Num: -7, Text: "spoilt"}}
	}
}

// turned turns all bits over.
func turned(b []byte) {
	for i := range b {
		b[i] ^= 0xff
	}
}

func TestNotChanged(t *testing.T) { // P2: what is handed in is not changed, its spare room neither; nor is that room seen
	for seed := range int64(300) {
		m := newMaker(seed)
		m.rare = pick(m, 0, 30)
		for _, name := range m.s.Messages() {
			v := m.normal(name)
			var texts [][]byte
			in := lent(v, &texts)
			before := wholly(in)
			s, b := lentText(m.written(name, 3))
			room := string(b[:cap(b)])
			c := json.New(m.s)
			want := ask(json.New(m.s), name, v, strings.Clone(s))
			if got := ask(c, name, in, s); got != want {
				t.Fatalf("P2: with spare room: %s, want %s", got, want)
			}
			json.Compact(s)
			json.Quote(s)
			if wholly(in) != before || string(b[:cap(b)]) != room {
				t.Fatalf("P2: what was handed in is changed: %s, it was %s", wholly(in), before)
			}
		}
	}
}

func TestNotKept(t *testing.T) { // P2: what is handed in is not kept, neither the text, nor the name, nor the tree with its texts: who changes them changes no answer
	memory := make([]byte, 3)
	name := unsafe.String(&memory[0], 3)
	for seed := range int64(300) {
		m := newMaker(seed)
		c := json.New(m.s)
		for _, right := range []string{"w.V", "w.W", "w.U", "w.V", "w.W"} {
			copy(memory, right)
			v := m.normal(right)
			var texts [][]byte
			in := lent(v, &texts)
			s, b := lentText(m.written(right, 3))
			kept := strings.Clone(s)
			want, _ := json.New(m.s).Parse(right, kept)

			told, e := c.Print(name, in)
			read, bad := c.Parse(name, s)
			bare, _ := json.Compact(s)
			quote, _ := json.Quote(s)
			copy(memory, "???")
			turned(b)
			for _, b := range texts {
				turned(b)
			}
			spoil(&in)
			if e != api.OK || told != secondText(m.s, right, v) || bad != (api.Fault{}) || !same(read, want) || bare != secondWithout(kept) || quote != secondQuote(kept) {
				t.Fatalf("P2: an answer is changed by who changes what was handed in: %s, %s, %s, %s", some(told), short(read), some(bare), some(quote))
			}
		}
		copy(memory, "w.U") // the first name's memory now says another type's name
		for _, right := range []string{"w.U", "w.V", "w.W"} {
			m := newMaker(seed)
			v, s := m.normal(right), m.written(right, 3)
			if got, want := ask(c, right, v, s), ask(json.New(m.s), right, v, s); got != want {
				t.Fatalf("P2: a name was kept: %s, want %s", got, want)
			}
		}
		if _, bad := c.Parse("???", "{}"); bad != (api.Fault{Err: api.ErrName}) {
			t.Fatalf("P2: a name was kept: %+v", bad)
		}
	}
}

// stretch is a piece of memory.
type stretch struct{ from, to uintptr }

// stretchOf is the memory of a list, its spare room too.
func stretchOf[T any](l []T) stretch {
	var one T
	from := uintptr(unsafe.Pointer(unsafe.SliceData(l)))
	return stretch{from, from + uintptr(cap(l))*unsafe.Sizeof(one)}
}

// stretchOfText is the memory of a text.
func stretchOfText(s string) stretch {
	return stretchOf(unsafe.Slice(unsafe.StringData(s), len(s)))
}

// stretches are the memory of all lists and texts of a tree.
func stretches(v api.Value) []stretch {
	l := []stretch{stretchOf(v.List), stretchOf(v.Fields), stretchOfText(v.Text)}
	for _, in := range v.List {
		l = append(l, stretches(in)...)
	}
	for _, in := range v.Fields {
		l = append(l, stretches(in.Value)...)
	}
	return l
}

func TestNotShared(t *testing.T) { // P2: no two lists and texts of the answers share memory, their spare room neither; nor do they share it with what was handed in
	for seed := range int64(150) {
		m := newMaker(seed)
		c := json.New(m.s)
		var kept []any
		var l []stretch
		for range 2 {
			for _, name := range m.s.Messages() {
				var texts [][]byte
				in := lent(m.normal(name), &texts)
				s, b := lentText(m.written(name, 3))
				told, _ := c.Print(name, in)
				read, _ := c.Parse(name, s)
				again, _ := c.Parse(name, s)
				bare, _ := json.Compact(s)
				twice, _ := json.Compact(bare)
				quote, _ := json.Quote(s)
				kept = append(kept, in, texts, b, told, read, again, bare, twice, quote)
				l = append(l, stretchOf(b))
				for _, v := range []api.Value{in, read, again} {
					l = append(l, stretches(v)...)
				}
				for _, s := range []string{told, bare, twice, quote} {
					l = append(l, stretchOfText(s))
				}
			}
		}
		// One byte alone may be a text of the library's own, which never changes.
		l = slices.DeleteFunc(l, func(s stretch) bool { return s.to-s.from <= 1 })
		slices.SortFunc(l, func(a, b stretch) int { return int(a.from) - int(b.from) })
		for i := 1; i < len(l); i++ {
			if l[i-1].to > l[i].from {
				t.Fatalf("P2: two lists or texts share memory")
			}
		}
		runtime.KeepAlive(kept)
	}
}

func TestWrittenOver(t *testing.T) { // P2: who writes over an answer, its spare room too, changes no other answer
	for seed := range int64(200) {
		m := newMaker(seed)
		c := json.New(m.s)
		for _, name := range m.s.Messages() {
			s := m.written(name, 3)
			kept, _ := c.Parse(name, s)
			before := wholly(kept)
			v, _ := c.Parse(name, s)
			spoil(&v)
			again, bad := c.Parse(name, s)
			if wholly(kept) != before || bad != (api.Fault{}) || !same(again, kept) {
				t.Fatalf("P2: what is done with one answer is seen in another: %s, want %s", short(again), short(kept))
			}
		}
	}
}

func TestListsApart(t *testing.T) { // P2: who adds to a list of an answer, or changes one, changes no other list of it
	s := wideSchema()
	const many = `{"r3":[1,2,3],"r5":[1,2,3,4,5],"r14":["a","b","c"],"r15":["AA=="],"r17":[{"s3":1},{},{"s3":1,"s4":2,"s5":3}],"m3":{"":1,"a":2,"b":3},"s17":{"r3":[1],"r4":[2]}}`
	want, _ := json.New(s).Parse("w.W", many)
	for i := range want.Fields {
		v, bad := json.New(s).Parse("w.W", many)
		if bad != (api.Fault{}) || len(v.Fields) != 7 {
			t.Fatalf("P1206: %s, %+v", short(v), bad)
		}
		in := &v.Fields[i].Value
		in.List = append(in.List, num(9), num(9), num(9))
		spoil(in)
		for j := range want.Fields {
			if j != i && !same(v.Fields[j].Value, want.Fields[j].Value) {
				t.Errorf("P2: what is done with the field %d is seen in %d", v.Fields[i].Number, want.Fields[j].Number)
			}
		}
	}
}

func TestNilAndEmpty(t *testing.T) { // P2: nil and empty lists are the same
	s := smallSchema()
	empty := api.Value{Kind: api.VMessage, Fields: []api.Entry{}, List: []api.Value{}}
	prints(t, s, "p.M", empty, `{}`)
	prints(t, s, "p.M", one(7, empty), `{"g":{}}`)
	prints(t, s, "p.M", one(4, dict(kv("", empty))), `{"d":{"":{}}}`)
	number := api.Value{Kind: api.VNum, Num: 1, List: []api.Value{}, Fields: []api.Entry{}}
	prints(t, s, "p.M", one(1, number), `{"a":1}`)
	prints(t, s, "p.M", one(3, api.Value{Kind: api.VList, List: []api.Value{number}, Fields: []api.Entry{}}), `{"c":[1]}`)
	printRefuses(t, s, "p.M", one(3, api.Value{Kind: api.VList, List: []api.Value{}}), api.ErrNormal)
}

func TestLittleKept(t *testing.T) { // P2: an answer holds no more than what is in it, however long the text was
	c := json.New(smallSchema())
	blanks := strings.Repeat(" ", 1<<19)
	used := func() uint64 {
		var m runtime.MemStats
		runtime.GC()
		runtime.ReadMemStats(&m)
		return m.HeapAlloc
	}
	before := used()
	var kept []any
	for range 100 {
		v, _ := c.Parse("p.M", `{"b":"abc","d":{"key":{"b":"\u0041b"}}`+blanks+`}`)
		bare, _ := json.Compact(blanks + "1")
		kept = append(kept, v, bare)
	}
	if after := used(); after > before+10<<20 {
		t.Errorf("P2: 100 small answers hold %d bytes", after-before)
	}
	runtime.KeepAlive(kept)
}
