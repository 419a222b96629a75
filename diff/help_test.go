package diff_test

import (
	"fmt"
	"slices"
	"strings"
	"sync"
	"testing"

	"sigil/api"
	"sigil/bind"
	"sigil/diff"
	"sigil/tree"
)

// small is the schema of the document's examples.
const small = `syntax = "proto3"; package p; message M { int32 a = 1; string b = 2; repeated sint32 c = 3; map<string, M> d = 4; optional bool e = 5; oneof o { fixed32 f = 6; M g = 7; } }`

// words are the words of the types, by type.
var words = []string{"", "double", "float", "int32", "int64", "uint32", "uint64", "sint32", "sint64", "fixed32", "fixed64", "sfixed32", "sfixed64", "bool", "string", "bytes", "E", "W"}

// The numbers of the fields of w.W: of each type one that is single, optional, repeated, a map's value, a member of the oneof o; of each type of keys a map to int32 and one to V. To each the type is added. Their names are a letter, an underscore and the type, so that their JSON names have no underscore.
const (
	single   = 0   // s_1 ..
	optional = 20  // o_1 ..
	repeated = 40  // r_1 ..
	mapped   = 60  // m_1 ..
	keyed    = 80  // k_3 ..
	member   = 100 // x_1 ..
	keyedV   = 120 // v_3 ..
)

// More fields of w.W.
const (
	other = 180 // q_0, a member of the oneof q, a bool; the next ones are q_1, an int64, and q_2, a V
	ofV   = 200 // of_v, a single V
	listV = 201 // list_v, repeated V
	ofU   = 203 // of_u, a single U
	far   = 536870911
)

// keyTypes are the types that a map's keys have.
var keyTypes = []int{api.TInt32, api.TInt64, api.TUint32, api.TUint64, api.TSint32, api.TSint64, api.TFixed32, api.TFixed64, api.TSfixed32, api.TSfixed64, api.TBool, api.TString}

// wide is a schema that has every type with every card, and three messages that hold one another and themselves.
func wide() string {
	var b strings.Builder
	b.WriteString(`syntax = "proto3"; package w; enum E { Z = 0; A = 1; } message V { sint32 a = 1; W w = 2; repeated U u = 3; repeated string c_d = 4; } `)
	b.WriteString(`message U { fixed32 a_b = 1; map<bool, U> u = 2; oneof o { V v = 3; string s = 4; } optional bytes b = 5; } message W {`)
	for typ := api.TDouble; typ <= api.TMessage; typ++ {
		fmt.Fprintf(&b, "%[1]s s_%[2]d = %[2]d; optional %[1]s o_%[2]d = %[3]d; repeated %[1]s r_%[2]d = %[4]d; map<string, %[1]s> m_%[2]d = %[5]d;", words[typ], typ, optional+typ, repeated+typ, mapped+typ)
	}
	for _, key := range keyTypes {
		fmt.Fprintf(&b, "map<%[1]s, int32> k_%[2]d = %[3]d; map<%[1]s, V> v_%[2]d = %[4]d;", words[key], key, keyed+key, keyedV+key)
	}
	b.WriteString("oneof o {")
	for typ := api.TDouble; typ <= api.TMessage; typ++ {
		fmt.Fprintf(&b, "%s x_%d = %d;", words[typ], typ, member+typ)
	}
	fmt.Fprintf(&b, "} oneof q { bool q_0 = %d; int64 q_1 = %d; V q_2 = %d; } V of_v = %d; repeated V list_v = %d; U of_u = %d; int32 far = %d; }", other, other+1, other+2, ofV, listV, ofU, far)
	return b.String()
}

// load is the schema of one text.
func load(t testing.TB, text string) *bind.Schema {
	t.Helper()
	s, bad := bind.Load([]api.Source{{Name: "f", Text: text}})
	if bad.Err != api.OK {
		t.Fatalf("Load(%s): %+v", text, bad)
	}
	return s
}

// proto is the schema of declarations.
func proto(t testing.TB, declarations string) *bind.Schema {
	t.Helper()
	return load(t, `syntax = "proto3"; `+declarations)
}

// smallSchema and wideSchema are loaded once.
var smallSchema = sync.OnceValue(func() *bind.Schema {
	s, _ := bind.Load([]api.Source{{Name: "f", Text: small}})
	return s
})

var wideSchema = sync.OnceValue(func() *bind.Schema {
	s, _ := bind.Load([]api.Source{{Name: "f", Text: wide()}})
	return s
})

func num(v int) api.Value                  { return api.Value{Kind: api.VNum, Num: v} }
func text(v string) api.Value              { return api.Value{Kind: api.VText, Text: v} }
func msg(l ...api.Entry) api.Value         { return api.Value{Kind: api.VMessage, Fields: l} }
func at(i int, v api.Value) api.Entry      { return api.Entry{Number: i, Value: v} }
func list(l ...api.Value) api.Value        { return api.Value{Kind: api.VList, List: l} }
func dict(l ...api.Value) api.Value        { return api.Value{Kind: api.VMap, List: l} }
func pair(l ...api.Value) api.Value        { return api.Value{Kind: api.VPair, List: l} }
func one(i int, v api.Value) api.Value     { return msg(at(i, v)) }
func kv(key string, v api.Value) api.Value { return pair(text(key), v) }

// nums is a list of numbers.
func nums(l ...int) api.Value {
	v := list()
	for _, n := range l {
		v.List = append(v.List, num(n))
	}
	return v
}

// The edits.
func set(p string, v api.Value) api.Edit {
	return api.Edit{Kind: api.ESet, Path: p, Values: []api.Value{v}}
}
func drop(p string) api.Edit { return api.Edit{Kind: api.EClear, Path: p} }
func splice(p string, at, out int, l ...api.Value) api.Edit {
	return api.Edit{Kind: api.ESplice, Path: p, At: at, Out: out, Values: l}
}

// chain puts a value into messages of a field, one in another.
func chain(n, number int, v api.Value) api.Value {
	for range n {
		v = one(number, v)
	}
	return v
}

// nested puts a value into lists, one in another.
func nested(n int, v api.Value) api.Value {
	for range n {
		v = list(v)
	}
	return v
}

// filled is a list of so many values that are the same.
func filled(n int, v api.Value) []api.Value { return slices.Repeat([]api.Value{v}, n) }

// short tells a tree in not too many letters; what is deep or long is left out.
func short(v api.Value) string { return shortTo(v, 8) }

func shortTo(v api.Value, levels int) string {
	if levels == 0 {
		return ".."
	}
	var b strings.Builder
	fmt.Fprintf(&b, "{%d %d %.20q", v.Kind, v.Num, v.Text)
	for i, in := range v.List[:min(8, len(v.List))] {
		fmt.Fprintf(&b, " %d:%s", i, shortTo(in, levels-1))
	}
	for _, in := range v.Fields[:min(8, len(v.Fields))] {
		fmt.Fprintf(&b, " %d:%s", in.Number, shortTo(in.Value, levels-1))
	}
	return b.String() + "}"
}

// shortEdits tells edits in not too many letters.
func shortEdits(l []api.Edit) string {
	var b strings.Builder
	for _, e := range l[:min(12, len(l))] {
		fmt.Fprintf(&b, "{%d %.60q %d %d", e.Kind, e.Path, e.At, e.Out)
		for _, v := range e.Values[:min(6, len(e.Values))] {
			b.WriteString(" " + short(v))
		}
		b.WriteString("} ")
	}
	return fmt.Sprintf("%d edits: %s", len(l), b.String())
}

// same says whether two trees are the same in all that they hold.
func same(a, b api.Value) bool {
	return a.Kind == b.Kind && a.Num == b.Num && a.Text == b.Text && slices.EqualFunc(a.List, b.List, same) &&
		slices.EqualFunc(a.Fields, b.Fields, func(x, y api.Entry) bool { return x.Number == y.Number && same(x.Value, y.Value) })
}

// sameEdits says whether two rows of edits are the same.
func sameEdits(a, b []api.Edit) bool {
	return slices.EqualFunc(a, b, func(x, y api.Edit) bool {
		return x.Kind == y.Kind && x.Path == y.Path && x.At == y.At && x.Out == y.Out && slices.EqualFunc(x.Values, y.Values, same)
	})
}

// turns looks at the edits of two trees, and at what follows of them.
func turns(t *testing.T, s *bind.Schema, name string, a, b api.Value, want ...api.Edit) {
	t.Helper()
	got, e := diff.Trees(s, name, a, b)
	if e != api.OK || !sameEdits(got, want) {
		t.Errorf("P1902: Trees(%s, %s) = %s, %v, want %s", short(a), short(b), shortEdits(got), e, shortEdits(want))
		return
	}
	leads(t, s, name, a, b, got)
}

// leads looks at what P1905 and P1906 say of the edits of two trees.
func leads(t *testing.T, s *bind.Schema, name string, a, b api.Value, l []api.Edit) {
	t.Helper()
	if (len(l) == 0) != same(a, b) {
		t.Errorf("P1905: Trees(%s, %s): %s", short(a), short(b), shortEdits(l))
	}
	applies(t, s, name, a, b, l...)
	apart(t, l)
}

// apart looks whether no path of edits is that of another, or below it.
func apart(t *testing.T, l []api.Edit) {
	t.Helper()
	paths := map[string]int{}
	for _, e := range l {
		paths[e.Path]++
		if paths[e.Path] > 1 {
			t.Errorf("P1906: two edits at %.80q", e.Path)
		}
	}
	for p := range paths {
		for i := range len(p) {
			// What is above ends ahead of a dot or a bracket; within a key such texts are no paths of the type.
			if (p[i] == '.' || p[i] == '[') && paths[p[:i]] > 0 {
				t.Errorf("P1906: %.80q lies below %.80q", p, p[:i])
			}
		}
		if p != "" && paths[""] > 0 {
			t.Errorf("P1906: %.80q lies below the path without steps", p)
		}
	}
}

func treesRefuse(t *testing.T, s *bind.Schema, name string, a, b api.Value, want api.Errno) {
	t.Helper()
	if got, e := diff.Trees(s, name, a, b); e != want || len(got) > 0 {
		t.Errorf("P1902: Trees(%.40q, %s, %s) = %s, %v, want %v", name, short(a), short(b), shortEdits(got), e, want)
	}
}

// applies looks at what comes of edits, and at the way back.
func applies(t *testing.T, s *bind.Schema, name string, a, want api.Value, l ...api.Edit) {
	t.Helper()
	got, e := diff.Apply(s, name, a, l)
	if e != api.OK || !same(got, want) {
		t.Errorf("P1903: Apply(%s, %s) = %s, %v, want %s", short(a), shortEdits(l), short(got), e, short(want))
		return
	}
	if trail, e := tree.Normal(s, name, got); e != api.OK {
		t.Errorf("P1903: Apply(%s, %s) = %s: %v at %v", short(a), shortEdits(l), short(got), e, trail)
	}
	back, e := diff.Back(s, name, a, l)
	edits, bad := diff.Trees(s, name, got, a)
	if e != bad || !sameEdits(back, edits) {
		t.Errorf("P1904: Back(%s, %s) = %s, %v, want %s, %v", short(a), shortEdits(l), shortEdits(back), e, shortEdits(edits), bad)
	}
	if e != api.OK {
		return
	}
	if again, e := diff.Apply(s, name, got, back); e != api.OK || !same(again, a) {
		t.Errorf("P1905: Apply(%s, Back) = %s, %v, want %s", short(got), short(again), e, short(a))
	}
}

// refuses looks at the error of Apply and Back.
func refuses(t *testing.T, s *bind.Schema, name string, a api.Value, want api.Errno, l ...api.Edit) {
	t.Helper()
	if got, e := diff.Apply(s, name, a, l); e != want || !same(got, api.Value{}) {
		t.Errorf("P1903: Apply(%.40q, %s, %s) = %s, %v, want %v", name, short(a), shortEdits(l), short(got), e, want)
	}
	if got, e := diff.Back(s, name, a, l); e != want || len(got) > 0 {
		t.Errorf("P1904: Back(%.40q, %s, %s) = %s, %v, want %v", name, short(a), shortEdits(l), shortEdits(got), e, want)
	}
}

// changes looks at the changes between two schemas, and at what P1909 says of them.
func changes(t *testing.T, s, u *bind.Schema, want ...api.Change) {
	t.Helper()
	got := diff.Schemas(s, u)
	if !slices.Equal(got, want) {
		t.Errorf("P1908: %q to %q:\n%+v, want\n%+v", s.Texts(), u.Texts(), got, want)
	}
	swapped(t, s, u, got)
}

// swapped looks at P1909.
func swapped(t *testing.T, s, u *bind.Schema, l []api.Change) {
	t.Helper()
	want := slices.Clone(l)
	for i, c := range want {
		switch c.Kind {
		case api.CAdded:
			want[i].Kind = api.CGone
		case api.CGone:
			want[i].Kind = api.CAdded
		}
		want[i].Old, want[i].New = c.New, c.Old
	}
	if got := diff.Schemas(u, s); !slices.Equal(got, want) {
		t.Errorf("P1909: %q to %q:\n%+v, want\n%+v", u.Texts(), s.Texts(), got, want)
	}
	if (len(l) == 0) != slices.Equal(s.Texts(), u.Texts()) || (len(l) == 0) != (alike(s) == alike(u)) {
		t.Errorf("P1909: %q to %q: %+v", s.Texts(), u.Texts(), l)
	}
}

// alike tells all that Message and Enum tell.
func alike(s *bind.Schema) string {
	var b strings.Builder
	for _, name := range s.Messages() {
		m, _ := s.Message(name)
		fmt.Fprintf(&b, "%q\n", fmt.Sprint(m))
	}
	for _, name := range s.Enums() {
		d, _ := s.Enum(name)
		fmt.Fprintf(&b, "%q\n", fmt.Sprint(d))
	}
	return b.String()
}
