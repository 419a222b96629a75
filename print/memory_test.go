package print_test

import (
	"reflect"
	"slices"
	"strings"
	"testing"
	"unsafe"

	"sigil/api"
	"sigil/print"
)

// held is a text over bytes that can be changed behind the program's back, and these bytes.
func held(s string) (string, []byte) {
	b := []byte(s + "!")
	return unsafe.String(&b[0], len(s)), b
}

// wreck changes all bytes.
func wreck(all [][]byte) {
	for _, b := range all {
		for i := range b {
			b[i] ^= 0x55
		}
	}
}

// heldFile is a copy of declarations, all texts of which can be changed, and their bytes.
func heldFile(f api.File) (api.File, [][]byte) {
	f = copied(f)
	var all [][]byte
	walk(reflect.ValueOf(&f).Elem(), func(v reflect.Value) {
		if v.Kind() == reflect.String {
			s, b := held(v.String())
			v.SetString(s)
			all = append(all, b)
		}
	})
	return f, all
}

// walk goes through all values, each behind those in it.
func walk(v reflect.Value, f func(reflect.Value)) {
	switch v.Kind() {
	case reflect.Struct:
		for i := range v.NumField() {
			walk(v.Field(i), f)
		}
	case reflect.Slice:
		for i := range v.Len() {
			walk(v.Index(i), f)
		}
	}
	f(v)
}

// several are right declarations of many kinds.
func several() []api.File {
	l := []api.File{{}, whole(), {Package: "p"}, {Imports: []string{"b", "a", "a"}}, withFields(typed(1, "T", 0)), inEnum(api.EnumDecl{})}
	for seed := range int64(200) {
		l = append(l, newMaker(seed).file())
	}
	return l
}

func TestNotKept(t *testing.T) { // P2: what is handed in is not kept
	for _, f := range several() {
		in, all := heldFile(f)
		text, e := print.Text(in)
		g, worse := print.Sorted(in)
		if !same(in, f) {
			t.Errorf("P2: what was handed in is changed: %+v, %+v", in, f)
		}
		wreck(all)
		if text != modelText(f) || e != api.OK {
			t.Errorf("P2: Text keeps what was handed in: %v\n%s", e, text)
		}
		if !same(g, modelSorted(f)) || worse != api.OK {
			t.Errorf("P2: Sorted keeps what was handed in: %v\n%+v", worse, g)
		}
		for _, call := range []func(string) (string, api.Fault){print.Format, print.Canon} {
			want, _ := call(modelText(f))
			in, b := held(modelText(f))
			s, bad := call(in)
			if in != modelText(f) {
				t.Errorf("P2: a text that was handed in is changed")
			}
			wreck([][]byte{b})
			if s != want || bad != (api.Fault{}) {
				t.Errorf("P2: a text is kept: %v\n%s", bad, s)
			}
		}
	}
}

// roomy is a copy of declarations whose lists have spare room, and what stands in that room.
func roomy(f api.File) api.File {
	f = copied(f)
	walk(reflect.ValueOf(&f).Elem(), func(v reflect.Value) {
		if v.Kind() == reflect.Slice {
			room := reflect.MakeSlice(v.Type(), v.Len()+3, v.Len()+3)
			reflect.Copy(room, v)
			for i := range 3 {
				spoil(room.Index(v.Len() + i))
			}
			v.Set(room.Slice(0, v.Len()))
		}
	})
	return f
}

// rooms are copies of all lists of declarations, with their whole room.
func rooms(f *api.File) []any {
	var l []any
	walk(reflect.ValueOf(f).Elem(), func(v reflect.Value) {
		if v.Kind() == reflect.Slice {
			whole := reflect.MakeSlice(v.Type(), v.Cap(), v.Cap())
			reflect.Copy(whole, v.Slice(0, v.Cap()))
			l = append(l, whole.Interface())
		}
	})
	return l
}

// spoil fills a value with something else.
func spoil(v reflect.Value) {
	switch v.Kind() {
	case reflect.Int:
		v.SetInt(-77)
	case reflect.String:
		v.SetString("spoilt")
	case reflect.Struct:
		for i := range v.NumField() {
			spoil(v.Field(i))
		}
	case reflect.Slice:
		v.Set(reflect.MakeSlice(v.Type(), 3, 3))
	}
}

func TestNotChanged(t *testing.T) { // P2: nor changed, its spare room neither; and that room changes no answer
	for _, f := range several() {
		in := roomy(f)
		before := rooms(&in)
		text, e := print.Text(in)
		g, worse := print.Sorted(in)
		if text != modelText(f) || !same(g, modelSorted(f)) || e != api.OK || worse != api.OK || print.Right(in) != api.OK {
			t.Errorf("P3: an answer hangs on spare room: %v, %v", e, worse)
		}
		if !reflect.DeepEqual(rooms(&in), before) {
			t.Errorf("P2: what was handed in is changed: %+v", in)
		}
	}
	for _, c := range breaks() {
		f, _ := changed(whole(), c)
		in := roomy(f)
		before := rooms(&in)
		print.Right(in)
		print.Text(in)
		print.Sorted(in)
		if !reflect.DeepEqual(rooms(&in), before) {
			t.Errorf("P2: %s: what was handed in is changed", c.name)
		}
	}
}

// stretch is a piece of memory.
type stretch struct{ from, to uintptr }

// stretches are the memory of all lists of declarations, with their whole room.
func stretches(f *api.File) []stretch {
	var l []stretch
	walk(reflect.ValueOf(f).Elem(), func(v reflect.Value) {
		if v.Kind() == reflect.Slice && v.Cap() > 0 {
			l = append(l, stretch{v.Pointer(), v.Pointer() + uintptr(v.Cap())*v.Type().Elem().Size()})
		}
	})
	return l
}

func TestNotShared(t *testing.T) { // P2: no two lists of an answer share memory, nor do an answer and what was handed in, nor two answers
	shared := whole() // one list in many places
	for i := range shared.Messages {
		shared.Messages[i].Fields, shared.Messages[i].Enums, shared.Messages[i].Gone = shared.Messages[0].Fields, shared.Enums, shared.Imports
		shared.Messages[i].Oneofs = shared.Messages[0].Oneofs
	}
	shared.Messages = append(shared.Messages, shared.Messages...)
	for _, in := range append(several(), shared) {
		own := stretches(&in)
		f, e := print.Sorted(in)
		g, worse := print.Sorted(in)
		if e != api.OK || worse != api.OK {
			t.Fatalf("P604: %v, %v", e, worse)
		}
		all := append(stretches(&f), stretches(&g)...)
		slices.SortFunc(all, func(a, b stretch) int { return int(a.from) - int(b.from) })
		for i := range all {
			if i > 0 && all[i-1].to > all[i].from {
				t.Errorf("P2: two lists share memory")
			}
			for _, s := range own {
				if all[i].from < s.to && s.from < all[i].to {
					t.Errorf("P2: an answer shares memory with what was handed in")
				}
			}
		}
		want := copied(in)
		walk(reflect.ValueOf(&f).Elem(), func(v reflect.Value) {
			if v.Kind() == reflect.Slice {
				v.Set(v.Slice(0, v.Cap()))
				for i := range v.Len() {
					spoil(v.Index(i))
				}
			}
		})
		again, _ := print.Sorted(in)
		if !same(in, want) || !same(again, modelSorted(want)) || !same(g, again) {
			t.Errorf("P2, P3: what is done with an answer is seen elsewhere")
		}
	}
}

func TestNilAndEmpty(t *testing.T) { // P2: nil and empty lists are the same
	for _, f := range several() {
		empty := full(f)
		text, e := print.Text(empty)
		want, worse := print.Text(f)
		g, _ := print.Sorted(empty)
		h, _ := print.Sorted(f)
		if text != want || e != worse || !same(g, h) {
			t.Errorf("P2: an empty list is not as nil: %v, %v", e, worse)
		}
	}
	if text, e := print.Text(api.File{Imports: []string{}, Messages: []api.MessageDecl{{Name: "M", Fields: []api.FieldDecl{}, Oneofs: []string{}, Messages: []api.MessageDecl{}, Enums: []api.EnumDecl{}, Reserved: []api.Range{}, Gone: []string{}}}, Enums: []api.EnumDecl{}}); e != api.OK || text != begin+"message M {\n}\n" {
		t.Errorf("P2: empty lists: %v %q", e, text)
	}
	checkRight(t, "an enum of an empty list", api.File{Enums: []api.EnumDecl{{Name: "E", Values: []api.EnumValue{}}}}, api.ErrDecl)
	checkRight(t, "long", api.File{Imports: slices.Repeat([]string{strings.Repeat("x", 255)}, 300)}, api.ErrLong)
}
