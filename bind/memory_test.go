package bind_test

import (
	"fmt"
	"reflect"
	"runtime"
	"slices"
	"strings"
	"sync"
	"testing"
	"unsafe"

	"sigil/api"
	"sigil/bind"
)

// held is a text over bytes that can be changed behind the program's back, and these bytes.
func held(s string) (string, []byte) {
	b := []byte(s + "!")
	return unsafe.String(&b[0], len(s)), b
}

// wreck changes all bytes.
func wreck(all ...[]byte) {
	for _, b := range all {
		for i := range b {
			b[i] ^= 0x55
		}
	}
}

// heldSources are copies of sources, with spare room, all texts of which can be changed, and their bytes.
func heldSources(l []api.Source) ([]api.Source, [][]byte) {
	var all [][]byte
	out := make([]api.Source, 0, len(l)+2)
	for _, s := range l {
		name, b := held(s.Name)
		text, c := held(s.Text)
		out = append(out, api.Source{Name: name, Text: text})
		all = append(all, b, c)
	}
	room := out[:len(l)+2]
	room[len(l)], room[len(l)+1] = api.Source{Name: "room", Text: "more"}, api.Source{Name: "", Text: "}"}
	return out, all
}

// several are sources of many kinds, right ones and others.
func several() [][]api.Source {
	l := [][]api.Source{
		nil, world()[1:4], texts("a", "message M { bool a = 1; oneof o { M m = 2; } reserved 9, 7; reserved 'z', 'y'; } enum E { Z = 0; B = 2; A = 1; reserved 5, 4; reserved 'q', 'p'; }"),
		texts("name", "", "name", ""), texts("a", "import 'none';"), texts("a", "import 'b'; import 'b';", "b", ""), texts("a", "message M { } enum M { Z = 0; }"), texts("a", "package p;", "b", "message p { }"),
		texts("a", "message M { reserved 'f'; bool f = 1; }"), texts("a", "message M { Gone f = 1; }"), texts("a", "enum E { A = 0; A = 1; }"), texts("a", "message M { oneof o { M a = 1; } oneof o { M b = 2; } }"),
		texts("a", "package q;"+"message "+strings.Repeat("n", 200)+" { message M { } "+numbered(400, "M a%[1]d=1%03[1]d;")+"}"),
	}
	for seed := range int64(200) {
		l = append(l, made(seed))
	}
	return l
}

func TestNotKept(t *testing.T) { // P2: what is handed in is neither changed nor kept, by a schema nor by a fault
	for _, l := range several() {
		want, wantBad := bind.Load(l)
		in, all := heldSources(l)
		s, bad := bind.Load(in)
		room := in[:len(in)+2]
		if !slices.Equal(in, l) || room[len(in)].Name != "room" || room[len(in)].Text != "more" || room[len(in)+1].Text != "}" {
			t.Errorf("P2: what was handed in is changed: %q", room)
		}
		wreck(all...)
		clear(room)
		if bad != wantBad || (s == nil) != (want == nil) {
			t.Errorf("P2: %q: a fault keeps what was handed in: %+v, want %+v", l, bad, wantBad)
		}
		if s != nil && told(s) != told(want) {
			t.Errorf("P2: %q: a schema keeps what was handed in: %s", l, told(s))
		}
	}
}

func TestNamesNotKept(t *testing.T) { // P2: nor does an answer hold the names that were asked for
	s := load(t, texts("a", "message M { M m_n = 1; }"))
	name, b := held("M")
	field, c := held("m_n")
	json, d := held("mN")
	m, _ := s.Message(name)
	reach, _ := s.Reach(name)
	one, _ := s.Field(name, 1)
	two, _ := s.Named(name, field)
	three, _ := s.Named(name, json)
	wreck(b, c, d)
	want := api.Field{Number: 1, Name: "m_n", Json: "mN", Card: api.CSingle, Type: api.TMessage, Of: "M"}
	if m.Name != "M" || !slices.Equal(m.Fields, []api.Field{want}) || !slices.Equal(reach, []string{"M"}) || one != want || two != want || three != want {
		t.Errorf("P2: an answer keeps what was handed in: %+v, %q, %+v, %+v, %+v", m, reach, one, two, three)
	}
}

// lists goes through all lists of an answer, those within first.
func lists(v reflect.Value, f func(reflect.Value)) {
	switch v.Kind() {
	case reflect.Struct:
		for i := range v.NumField() {
			lists(v.Field(i), f)
		}
	case reflect.Slice:
		for i := range v.Len() {
			lists(v.Index(i), f)
		}
		f(v)
	}
}

// spoil fills a value with something else.
func spoil(v reflect.Value) {
	switch v.Kind() {
	case reflect.Int:
		v.SetInt(-77)
	case reflect.String:
		v.SetString("spoilt")
	case reflect.Struct:
		for i := range v.NumField() {
			spoil(v.Field(i))
		}
	}
}

// answersOf are all answers that have lists.
func answersOf(s *bind.Schema) []any {
	messages, enums, sources := s.Messages(), s.Enums(), s.Texts()
	l := []any{&messages, &enums, &sources}
	for _, name := range slices.Concat(messages, enums) {
		m, _ := s.Message(name)
		d, _ := s.Enum(name)
		reach, _ := s.Reach(name)
		l = append(l, &m, &d, &reach)
	}
	return l
}

// stretch is a piece of memory.
type stretch struct{ from, to uintptr }

func TestNotShared(t *testing.T) { // P2: no two lists that are handed out share memory, their spare room neither; and what is done with them is seen nowhere
	for _, l := range several() {
		s, bad := bind.Load(l)
		if bad.Err != api.OK {
			continue
		}
		before := told(s)
		all := append(answersOf(s), answersOf(s)...)
		var memory []stretch
		for _, answer := range all {
			lists(reflect.ValueOf(answer).Elem(), func(v reflect.Value) {
				if v.Cap() > 0 {
					memory = append(memory, stretch{v.Pointer(), v.Pointer() + uintptr(v.Cap())*v.Type().Elem().Size()})
				}
			})
		}
		slices.SortFunc(memory, func(a, b stretch) int { return int(a.from) - int(b.from) })
		for i := 1; i < len(memory); i++ {
			if memory[i-1].to > memory[i].from {
				t.Errorf("P2: %q: two lists share memory", l)
			}
		}
		for _, answer := range all {
			lists(reflect.ValueOf(answer).Elem(), func(v reflect.Value) {
				room := v.Slice(0, v.Cap())
				for i := range room.Len() {
					spoil(room.Index(i))
				}
			})
		}
		if told(s) != before {
			t.Errorf("P2: %q: what is done with an answer is seen elsewhere", l)
		}
		runtime.KeepAlive(all)
	}
}

func TestBeside(t *testing.T) { // P3: schemas beside one another, and the same again, also at the same time
	var schemas []*bind.Schema
	var before []string
	for _, l := range several() {
		if s, bad := bind.Load(l); bad.Err == api.OK {
			schemas, before = append(schemas, s), append(before, told(s))
		}
		s, bad := bind.Load(l)
		other, worse := bind.Load(slices.Clone(l))
		if bad != worse || (s == nil) != (other == nil) || s != nil && told(s) != told(other) {
			t.Errorf("P3: %q: not the same again: %+v, %+v", l, bad, worse)
		}
	}
	var wait sync.WaitGroup
	for range 4 {
		wait.Go(func() {
			for i, s := range schemas {
				if told(s) != before[i] {
					t.Errorf("P3: a schema answers otherwise than before: %q", before[i])
				}
			}
		})
	}
	wait.Wait()
	one := load(t, texts("a", "message M { bool a = 1; } enum E { A = 0; }"))
	two := load(t, texts("a", "message M { int32 b = 2; } enum E { B = 0; }"))
	for range 2 {
		f, e := one.Field("M", 1)
		g, worse := two.Field("M", 1)
		if f.Name != "a" || e != api.OK || g != (api.Field{}) || worse != api.ErrArg {
			t.Errorf("P3: two schemas: %+v, %v, %+v, %v", f, e, g, worse)
		}
		c, _ := one.Enum("E")
		d, _ := two.Enum("E")
		if c.Values[0].Name != "A" || d.Values[0].Name != "B" {
			t.Errorf("P3: two schemas: %+v, %+v", c, d)
		}
	}
}

// inUse is how much memory is.
func inUse() int {
	runtime.GC()
	var now runtime.MemStats
	runtime.ReadMemStats(&now)
	return int(now.HeapAlloc)
}

func TestRoomOfSchemas(t *testing.T) { // P2: a schema does not hold on to its sources' texts
	text := begin + "/*" + strings.Repeat("x", 65000) + "*/ message M { bool a = 1; oneof o { M m = 2; } message N { } reserved 'q'; } enum E { Z = 0; reserved 'q'; }"
	var schemas []*bind.Schema
	before := inUse()
	for i := range 200 {
		s, bad := bind.Load([]api.Source{{Name: fmt.Sprint(i), Text: text}})
		if bad.Err != api.OK {
			t.Fatalf("P701: %+v", bad)
		}
		schemas = append(schemas, s)
	}
	if more := inUse() - before; more > 200*16384 {
		t.Errorf("P2: 200 small schemas hold %d bytes", more)
	}
	runtime.KeepAlive(schemas)
}

func TestHeavy(t *testing.T) { // P1: as many fields in as many scopes as there may be, each type looked for in all of them
	var l []api.Source
	for i := range 16 {
		var b strings.Builder
		fmt.Fprintf(&b, "%spackage p%s;", begin, strings.Repeat(".p", 100)+fmt.Sprint(i))
		for j := range 16 {
			if j != i {
				fmt.Fprintf(&b, "import '%d';", j)
			}
		}
		for j := range 6 {
			fmt.Fprintf(&b, "message M%d{", j)
			for k := range 500 {
				fmt.Fprintf(&b, "X%s a%d=%d;", either(i == 15 && j == 5 && k == 499, "X", ""), k, k+1)
			}
			b.WriteString("}")
		}
		l = append(l, api.Source{Name: fmt.Sprint(i), Text: b.String()})
	}
	last := "p" + strings.Repeat(".p", 100)
	if s, bad := bind.Load(l); s != nil || bad != fault(api.ErrUnknown, 0, last+"0.M0.a0") {
		t.Errorf("P701: %+v", bad)
	}
	// With the type in the outermost scope, all but the last field find it.
	l[14].Text = begin + "message X { }"
	if s, bad := bind.Load(l); s != nil || bad != fault(api.ErrUnknown, 15, last+"15.M5.a499") {
		t.Errorf("P701: %+v", bad)
	}
}
