package json_test

import (
	"fmt"
	"slices"
	"strings"
	"sync"
	"testing"

	"sigil/api"
	"sigil/bind"
	"sigil/json"
	"sigil/tree"
)

// small is the schema of the chapter's examples.
const small = `syntax = "proto3"; package p; message M { int32 a = 1; string b = 2; repeated sint32 c = 3; map<string, M> d = 4; optional bool e = 5; oneof o { fixed32 f = 6; M g = 7; } }
enum E { Z = 0; ONE = 1; } message X { uint64 u_l = 1; bytes y = 2; E e = 3; double d = 4; map<int32, bool> k = 5; }`

// words are the words of the types, by type.
var words = []string{"", "double", "float", "int32", "int64", "uint32", "uint64", "sint32", "sint64", "fixed32", "fixed64", "sfixed32", "sfixed64", "bool", "string", "bytes", "E", "W"}

// The numbers of the fields of w.W: of each type one that is single, optional, repeated, a map's value, a member of the oneof o; of each type of keys a map. To each the type is added. Their names are a letter, an underscore and the type, so that their JSON names have no underscore.
const (
	single   = 0   // s_1 ..
	optional = 20  // o_1 ..
	repeated = 40  // r_1 ..
	mapped   = 60  // m_1 ..
	keyed    = 80  // k_3 ..
	member   = 100 // x_1 ..
)

// More fields of w.W.
const (
	other = 180 // q_0, a member of the oneof q, a bool; the next one, q_1, is an int64
	ofV   = 200 // of_v, a single V
	listV = 201 // list_v, repeated V
	mapV  = 202 // map_v, map<uint64, V>
	ofU   = 203 // of_u, a single U
	tail  = 210 // tail, a single string
	none  = 211 // __, a single string: its JSON name is empty
	far   = 536870911
)

// keyTypes are the types that a map's keys have.
var keyTypes = []int{api.TInt32, api.TInt64, api.TUint32, api.TUint64, api.TSint32, api.TSint64, api.TFixed32, api.TFixed64, api.TSfixed32, api.TSfixed64, api.TBool, api.TString}

// wide is a schema that has every type with every card, and three messages that hold one another and themselves.
func wide() string {
	var b strings.Builder
	b.WriteString(`syntax = "proto3"; package w; enum E { Z = 0; A = 1; B_C = -1; MOST = 2147483647; LEAST = -2147483648; null = 5; true = 6; } `)
	b.WriteString(`message V { sint32 a = 1; W w = 2; repeated U u = 3; } message U { fixed32 a_b = 1; map<bool, U> u = 2; oneof o { V v = 3; string s = 4; } optional bytes b = 5; E e = 6; } message W {`)
	for typ := api.TDouble; typ <= api.TMessage; typ++ {
		fmt.Fprintf(&b, "%[1]s s_%[2]d = %[2]d; optional %[1]s o_%[2]d = %[3]d; repeated %[1]s r_%[2]d = %[4]d; map<string, %[1]s> m_%[2]d = %[5]d;", words[typ], typ, optional+typ, repeated+typ, mapped+typ)
	}
	for _, key := range keyTypes {
		fmt.Fprintf(&b, "map<%s, int32> k_%d = %d;", words[key], key, keyed+key)
	}
	b.WriteString("oneof o {")
	for typ := api.TDouble; typ <= api.TMessage; typ++ {
		fmt.Fprintf(&b, "%s x_%d = %d;", words[typ], typ, member+typ)
	}
	fmt.Fprintf(&b, "} oneof q { bool q_0 = %d; int64 q_1 = %d; } V of_v = %d; repeated V list_v = %d; map<uint64, V> map_v = %d; U of_u = %d; string tail = %d; string __ = %d; int32 far = %d; }", other, other+1, ofV, listV, mapV, ofU, tail, none, far)
	return b.String()
}

// load is the schema of one text.
func load(t testing.TB, text string) *bind.Schema {
	t.Helper()
	s, bad := bind.Load([]api.Source{{Name: "f", Text: text}})
	if bad.Err != api.OK {
		t.Fatalf("Load: %+v", bad)
	}
	return s
}

// smallSchema and wideSchema are loaded once.
var smallSchema = sync.OnceValue(func() *bind.Schema {
	s, _ := bind.Load([]api.Source{{Name: "f", Text: small}})
	return s
})

var wideSchema = sync.OnceValue(func() *bind.Schema {
	s, _ := bind.Load([]api.Source{{Name: "f", Text: wide()}})
	return s
})

func num(v int) api.Value                  { return api.Value{Kind: api.VNum, Num: v} }
func text(v string) api.Value              { return api.Value{Kind: api.VText, Text: v} }
func msg(l ...api.Entry) api.Value         { return api.Value{Kind: api.VMessage, Fields: l} }
func at(i int, v api.Value) api.Entry      { return api.Entry{Number: i, Value: v} }
func list(l ...api.Value) api.Value        { return api.Value{Kind: api.VList, List: l} }
func dict(l ...api.Value) api.Value        { return api.Value{Kind: api.VMap, List: l} }
func pair(l ...api.Value) api.Value        { return api.Value{Kind: api.VPair, List: l} }
func one(i int, v api.Value) api.Value     { return msg(at(i, v)) }
func kv(key string, v api.Value) api.Value { return pair(text(key), v) }

// short tells a tree in not too many letters; what is deep or long is left out.
func short(v api.Value) string { return shortTo(v, 8) }

func shortTo(v api.Value, levels int) string {
	if levels == 0 {
		return ".."
	}
	var b strings.Builder
	fmt.Fprintf(&b, "{%d %d %.20q", v.Kind, v.Num, v.Text)
	for i, in := range v.List[:min(8, len(v.List))] {
		fmt.Fprintf(&b, " %d:%s", i, shortTo(in, levels-1))
	}
	for _, in := range v.Fields[:min(8, len(v.Fields))] {
		fmt.Fprintf(&b, " %d:%s", in.Number, shortTo(in.Value, levels-1))
	}
	return b.String() + "}"
}

// some tells the first bytes of a text.
func some(s string) string {
	if len(s) <= 300 {
		return fmt.Sprintf("%q", s)
	}
	return fmt.Sprintf("%q .. %q (%d bytes)", s[:200], s[len(s)-20:], len(s))
}

// same says whether two trees are the same in all that they hold.
func same(a, b api.Value) bool {
	return a.Kind == b.Kind && a.Num == b.Num && a.Text == b.Text && slices.EqualFunc(a.List, b.List, same) &&
		slices.EqualFunc(a.Fields, b.Fields, func(x, y api.Entry) bool { return x.Number == y.Number && same(x.Value, y.Value) })
}

// compacts looks whether a text is right JSON, and what its tokens are.
func compacts(t *testing.T, s, want string) {
	t.Helper()
	got, bad := json.Compact(s)
	if bad != (api.Fault{}) || got != want {
		t.Errorf("P1203: Compact(%s) = %s, %+v, want %s", some(s), some(got), bad, some(want))
	}
	if again, bad := json.Compact(want); bad != (api.Fault{}) || again != want {
		t.Errorf("P1209: Compact(%s) = %s, %+v", some(want), some(again), bad)
	}
}

// faulty looks whether a text has a fault as JSON: Compact tells it, and so does Parse of any type.
func faulty(t *testing.T, s string, place int, e api.Errno) {
	t.Helper()
	want := api.Fault{Err: e, At: place}
	if got, bad := json.Compact(s); bad != want || got != "" {
		t.Errorf("P1202: Compact(%s) = %s, %+v, want %v at %d", some(s), some(got), bad, e, place)
	}
	if v, bad := json.New(smallSchema()).Parse("p.M", s); bad != want || !same(v, api.Value{}) {
		t.Errorf("P1206: Parse(%s) = %s, %+v, want %v at %d", some(s), short(v), bad, e, place)
	}
}

// prints looks whether a tree is written as a text, and read back.
func prints(t *testing.T, s *bind.Schema, name string, v api.Value, want string) {
	t.Helper()
	c := json.New(s)
	got, e := c.Print(name, v)
	if e != api.OK || got != want {
		t.Errorf("P1205: Print(%q, %s) = %s, %v, want %s", name, short(v), some(got), e, some(want))
		return
	}
	if back, bad := c.Parse(name, got); bad != (api.Fault{}) || !same(back, v) {
		t.Errorf("P1207: Parse(%q, %s) = %s, %+v, want %s", name, some(got), short(back), bad, short(v))
	}
	if again, bad := json.Compact(got); bad != (api.Fault{}) || again != got {
		t.Errorf("P1209: Compact(%s) = %s, %+v", some(got), some(again), bad)
	}
}

// printRefuses looks whether Print refuses a tree.
func printRefuses(t *testing.T, s *bind.Schema, name string, v api.Value, want api.Errno) {
	t.Helper()
	if got, e := json.New(s).Print(name, v); e != want || got != "" {
		t.Errorf("P1205: Print(%.40q, %s) = %s, %v, want %v", name, short(v), some(got), e, want)
	}
}

// reads looks whether a text is read as a tree, and whether all that is promised of such a text holds.
func reads(t *testing.T, s *bind.Schema, name, text string, want api.Value) {
	t.Helper()
	c := json.New(s)
	v, bad := c.Parse(name, text)
	if bad != (api.Fault{}) || !same(v, want) {
		t.Errorf("P1206: Parse(%q, %s) = %s, %+v, want %s", name, some(text), short(v), bad, short(want))
		return
	}
	if trail, e := tree.Normal(s, name, v); e != api.OK {
		t.Errorf("P1207: %s is read as %s, which is %v at %v", some(text), short(v), e, trail)
	}
	if told, e := c.Print(name, v); e != api.OK {
		t.Errorf("P1207: Print(%q, %s) answers %v", name, short(v), e)
	} else if back, bad := c.Parse(name, told); bad != (api.Fault{}) || !same(back, v) {
		t.Errorf("P1207: Parse(%q, %s) = %s, %+v, want %s", name, some(told), short(back), bad, short(v))
	}
	bare, bad := json.Compact(text)
	if bad != (api.Fault{}) {
		t.Errorf("P1208: Compact(%s) answers %+v", some(text), bad)
	}
	if v, bad := c.Parse(name, bare); bad != (api.Fault{}) || !same(v, want) {
		t.Errorf("P1208: Parse(%q, %s) = %s, %+v, want %s", name, some(bare), short(v), bad, short(want))
	}
}

// refuses looks whether Parse refuses a text that is right JSON, at a place, with nothing beside the fault; without blanks too, for the same reason.
func refuses(t *testing.T, s *bind.Schema, name, text string, place int, want api.Errno) {
	t.Helper()
	c := json.New(s)
	v, bad := c.Parse(name, text)
	if bad != (api.Fault{Err: want, At: place}) {
		t.Errorf("P1206: Parse(%.40q, %s) answers %+v, want %v at %d", name, some(text), bad, want, place)
	}
	if !same(v, api.Value{}) {
		t.Errorf("P4: Parse(%.40q, %s) answers %s beside an error", name, some(text), short(v))
	}
	bare, bad := json.Compact(text)
	if bad != (api.Fault{}) {
		t.Errorf("P1203: Compact(%s) answers %+v", some(text), bad)
	}
	if v, bad := c.Parse(name, bare); bad.Err != want || !same(v, api.Value{}) {
		t.Errorf("P1208: Parse(%.40q, %s) = %s, %+v, want %v", name, some(bare), short(v), bad, want)
	}
}

// marked takes the mark ^ out of a text, and tells its place.
func marked(s string) (string, int) {
	ahead, behind, ok := strings.Cut(s, "^")
	if !ok || strings.Contains(behind, "^") {
		panic(s)
	}
	return ahead + behind, len(ahead)
}
