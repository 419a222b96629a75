package path_test

import (
	"fmt"
	"slices"
	"strings"
	"sync"
	"testing"

	"sigil/api"
	"sigil/bind"
	"sigil/path"
	"sigil/tree"
)

// small is the schema of the document's examples.
const small = `syntax = "proto3"; package p; message M { int32 a = 1; string b = 2; repeated sint32 c = 3; map<string, M> d = 4; optional bool e = 5; oneof o { fixed32 f = 6; M g = 7; } }`

// words are the words of the types, by type.
var words = []string{"", "double", "float", "int32", "int64", "uint32", "uint64", "sint32", "sint64", "fixed32", "fixed64", "sfixed32", "sfixed64", "bool", "string", "bytes", "E", "W"}

// The numbers of the fields of w.W: of each type one that is single, optional, repeated, a map's value, a member of the oneof o; of each type of keys a map. To each the type is added. Their names are a letter, an underscore and the type, so that their JSON names have no underscore.
const (
	single   = 0   // s_1 ..
	optional = 20  // o_1 ..
	repeated = 40  // r_1 ..
	mapped   = 60  // m_1 ..
	keyed    = 80  // k_3 ..
	member   = 100 // x_1 ..
)

// More fields of w.W.
const (
	other = 180 // q_0, a member of the oneof q, a bool; the next ones are q_1, an int64, and q_2, a V
	ofV   = 200 // of_v, a single V
	listV = 201 // list_v, repeated V
	mapV  = 202 // map_v, map<uint64, V>
	ofU   = 203 // of_u, a single U
	yes   = 204 // true, repeated bool
	blank = 205 // __, a single string: its JSON name is empty
	digit = 206 // _1, a single int32: its JSON name is no word
	tail  = 210 // tail, a single string
	far   = 536870911
)

// keyTypes are the types that a map's keys have.
var keyTypes = []int{api.TInt32, api.TInt64, api.TUint32, api.TUint64, api.TSint32, api.TSint64, api.TFixed32, api.TFixed64, api.TSfixed32, api.TSfixed64, api.TBool, api.TString}

// wide is a schema that has every type with every card, and three messages that hold one another and themselves.
func wide() string {
	var b strings.Builder
	b.WriteString(`syntax = "proto3"; package w; enum E { Z = 0; A = 1; } message V { sint32 a = 1; W w = 2; repeated U u = 3; } `)
	b.WriteString(`message U { fixed32 a_b = 1; map<bool, U> u = 2; oneof o { V v = 3; string s = 4; } optional bytes b = 5; } message W {`)
	for typ := api.TDouble; typ <= api.TMessage; typ++ {
		fmt.Fprintf(&b, "%[1]s s_%[2]d = %[2]d; optional %[1]s o_%[2]d = %[3]d; repeated %[1]s r_%[2]d = %[4]d; map<string, %[1]s> m_%[2]d = %[5]d;", words[typ], typ, optional+typ, repeated+typ, mapped+typ)
	}
	for _, key := range keyTypes {
		fmt.Fprintf(&b, "map<%s, int32> k_%d = %d;", words[key], key, keyed+key)
	}
	b.WriteString("oneof o {")
	for typ := api.TDouble; typ <= api.TMessage; typ++ {
		fmt.Fprintf(&b, "%s x_%d = %d;", words[typ], typ, member+typ)
	}
	fmt.Fprintf(&b, "} oneof q { bool q_0 = %d; int64 q_1 = %d; V q_2 = %d; } V of_v = %d; repeated V list_v = %d; map<uint64, V> map_v = %d; U of_u = %d; repeated bool true = %d; string __ = %d; int32 _1 = %d; string tail = %d; int32 far = %d; }", other, other+1, other+2, ofV, listV, mapV, ofU, yes, blank, digit, tail, far)
	return b.String()
}

// load is the schema of one text.
func load(t testing.TB, text string) *bind.Schema {
	t.Helper()
	s, bad := bind.Load([]api.Source{{Name: "f", Text: text}})
	if bad.Err != api.OK {
		t.Fatalf("Load: %+v", bad)
	}
	return s
}

// smallSchema and wideSchema are loaded once.
var smallSchema = sync.OnceValue(func() *bind.Schema {
	s, _ := bind.Load([]api.Source{{Name: "f", Text: small}})
	return s
})

var wideSchema = sync.OnceValue(func() *bind.Schema {
	s, _ := bind.Load([]api.Source{{Name: "f", Text: wide()}})
	return s
})

func num(v int) api.Value                  { return api.Value{Kind: api.VNum, Num: v} }
func text(v string) api.Value              { return api.Value{Kind: api.VText, Text: v} }
func msg(l ...api.Entry) api.Value         { return api.Value{Kind: api.VMessage, Fields: l} }
func at(i int, v api.Value) api.Entry      { return api.Entry{Number: i, Value: v} }
func list(l ...api.Value) api.Value        { return api.Value{Kind: api.VList, List: l} }
func dict(l ...api.Value) api.Value        { return api.Value{Kind: api.VMap, List: l} }
func pair(l ...api.Value) api.Value        { return api.Value{Kind: api.VPair, List: l} }
func one(i int, v api.Value) api.Value     { return msg(at(i, v)) }
func kv(key string, v api.Value) api.Value { return pair(text(key), v) }

// The steps.
func field(n int) api.Step         { return api.Step{Kind: api.SField, Number: n} }
func index(n int) api.Step         { return api.Step{Kind: api.SIndex, Number: n} }
func key(k api.Value) api.Step     { return api.Step{Kind: api.SKey, Key: k} }
func row(l ...api.Step) []api.Step { return l }

// example is the tree of the chapter's examples, in the small schema.
func example() api.Value {
	return msg(at(1, num(5)), at(3, list(num(1), num(-1))), at(4, dict(kv("k", one(2, text("x"))))), at(7, one(1, num(7))))
}

// chain puts a value into messages of a field, one in another.
func chain(n, number int, v api.Value) api.Value {
	for range n {
		v = one(number, v)
	}
	return v
}

// nested puts a value into lists, one in another.
func nested(n int, v api.Value) api.Value {
	for range n {
		v = list(v)
	}
	return v
}

// short tells a tree in not too many letters; what is deep or long is left out.
func short(v api.Value) string { return shortTo(v, 8) }

func shortTo(v api.Value, levels int) string {
	if levels == 0 {
		return ".."
	}
	var b strings.Builder
	fmt.Fprintf(&b, "{%d %d %.20q", v.Kind, v.Num, v.Text)
	for i, in := range v.List[:min(8, len(v.List))] {
		fmt.Fprintf(&b, " %d:%s", i, shortTo(in, levels-1))
	}
	for _, in := range v.Fields[:min(8, len(v.Fields))] {
		fmt.Fprintf(&b, " %d:%s", in.Number, shortTo(in.Value, levels-1))
	}
	return b.String() + "}"
}

// some tells the beginning of what may be long.
func some(v any) string {
	s := fmt.Sprintf("%+v", v)
	return s[:min(300, len(s))]
}

// same says whether two trees are the same in all that they hold.
func same(a, b api.Value) bool {
	return a.Kind == b.Kind && a.Num == b.Num && a.Text == b.Text && slices.EqualFunc(a.List, b.List, same) &&
		slices.EqualFunc(a.Fields, b.Fields, func(x, y api.Entry) bool { return x.Number == y.Number && same(x.Value, y.Value) })
}

// sameSteps says whether two rows of steps are the same.
func sameSteps(a, b []api.Step) bool {
	return slices.EqualFunc(a, b, func(x, y api.Step) bool { return x.Kind == y.Kind && x.Number == y.Number && same(x.Key, y.Key) })
}

// parses looks at the steps of a path, and that they come back.
func parses(t *testing.T, s *bind.Schema, name, p string, want ...api.Step) {
	t.Helper()
	got, e := path.Parse(s, name, p)
	if e != api.OK || !sameSteps(got, want) {
		t.Errorf("P1303: Parse(%q, %.80q) = %s, %v, want %s", name, p, some(got), e, some(want))
		return
	}
	follows(t, s, name, got)
}

// follows looks at P1305 for the steps that Parse told.
func follows(t *testing.T, s *bind.Schema, name string, steps []api.Step) {
	t.Helper()
	p, e := path.Print(s, name, steps)
	if e == api.ErrLong && p == "" {
		return
	}
	again, bad := path.Parse(s, name, p)
	if e != api.OK || bad != api.OK || !sameSteps(again, steps) {
		t.Errorf("P1305: Print tells %.80q, %v, Parse of it %s, %v, want %s", p, e, some(again), bad, some(steps))
	}
}

// parseRefuses looks at the error of a path.
func parseRefuses(t *testing.T, s *bind.Schema, name, p string, want api.Errno) {
	t.Helper()
	if got, e := path.Parse(s, name, p); e != want || len(got) > 0 {
		t.Errorf("P1303: Parse(%.40q, %.80q) = %s, %v, want %v", name, p, some(got), e, want)
	}
}

// prints looks at the path of steps, and that it comes back.
func prints(t *testing.T, s *bind.Schema, name, want string, steps ...api.Step) {
	t.Helper()
	p, e := path.Print(s, name, steps)
	if e != api.OK || p != want {
		t.Errorf("P1304: Print(%q, %s) = %.80q, %v, want %.80q", name, some(steps), p, e, want)
		return
	}
	if again, e := path.Parse(s, name, p); e != api.OK || !sameSteps(again, steps) {
		t.Errorf("P1305: Parse(%.80q) = %s, %v, want %s", p, some(again), e, some(steps))
	}
}

// printRefuses looks at the error of steps.
func printRefuses(t *testing.T, s *bind.Schema, name string, want api.Errno, steps ...api.Step) {
	t.Helper()
	if p, e := path.Print(s, name, steps); e != want || p != "" {
		t.Errorf("P1304: Print(%.40q, %s) = %.80q, %v, want %v", name, some(steps), p, e, want)
	}
}

// gets looks at what stands at a path.
func gets(t *testing.T, s *bind.Schema, name string, m api.Value, p string, want api.Value) {
	t.Helper()
	if v, ok, e := path.Get(s, name, m, p); !ok || e != api.OK || !same(v, want) {
		t.Errorf("P1306: Get(%s, %.80q) = %s, %v, %v, want %s", short(m), p, short(v), ok, e, short(want))
	}
}

// lacks looks whether nothing stands at a path; then nothing can be taken away there.
func lacks(t *testing.T, s *bind.Schema, name string, m api.Value, p string) {
	t.Helper()
	if v, ok, e := path.Get(s, name, m, p); ok || e != api.OK || !same(v, api.Value{}) {
		t.Errorf("P1306: Get(%s, %.80q) = %s, %v, %v, want nothing", short(m), p, short(v), ok, e)
	}
	clearRefuses(t, s, name, m, p, api.ErrAbsent)
}

func getRefuses(t *testing.T, s *bind.Schema, name string, m api.Value, p string, want api.Errno) {
	t.Helper()
	if v, ok, e := path.Get(s, name, m, p); ok || e != want || !same(v, api.Value{}) {
		t.Errorf("P1306: Get(%.40q, %s, %.80q) = %s, %v, %v, want %v", name, short(m), p, short(v), ok, e, want)
	}
}

// sets looks at the tree with a value at a path, and at what P1315 says of it.
func sets(t *testing.T, s *bind.Schema, name string, m api.Value, p string, v, want api.Value) {
	t.Helper()
	got, e := path.Set(s, name, m, p, v)
	if e != api.OK || !same(got, want) {
		t.Errorf("P1307: Set(%s, %.80q, %s) = %s, %v, want %s", short(m), p, short(v), short(got), e, short(want))
		return
	}
	behind(t, s, name, p, v, got)
}

// behind looks at what P1315 says of a tree that Set answered.
func behind(t *testing.T, s *bind.Schema, name, p string, v, set api.Value) {
	t.Helper()
	if trail, e := tree.Normal(s, name, set); e != api.OK {
		t.Errorf("Set at %.80q answers %s: %v at %v", p, short(set), e, trail)
	}
	steps, _ := path.Parse(s, name, p)
	there, ok, e := path.Get(s, name, set, p)
	if e != api.OK || ok != !goes(s, name, steps, v) || ok && !same(there, v) || !ok && !same(there, api.Value{}) {
		t.Errorf("P1315: Get at %.80q behind Set of %s = %s, %v, %v", p, short(v), short(there), ok, e)
	}
	if !ok {
		return
	}
	cleared, e := path.Clear(s, name, set, p)
	if e != api.OK {
		t.Errorf("P1315: Clear at %.80q behind Set of %s: %v", p, short(v), e)
	}
	if len(steps) == 0 || steps[len(steps)-1].Kind != api.SField {
		return
	}
	lacks(t, s, name, cleared, p)
	if again, e := path.Set(s, name, cleared, p, v); e != api.OK || !same(again, set) {
		t.Errorf("P1315: Set at %.80q behind Clear and Set of %s = %s, %v, want %s", p, short(v), short(again), e, short(set))
	}
}

// goes says whether a value takes away the field to which right steps go last.
func goes(s *bind.Schema, name string, steps []api.Step, v api.Value) bool {
	var f api.Field
	for _, st := range steps {
		if st.Kind == api.SField {
			f, _ = s.Field(name, st.Number)
			name = f.Of
		}
	}
	if len(steps) == 0 || steps[len(steps)-1].Kind != api.SField {
		return false
	}
	if f.Card == api.CRepeated || f.Card == api.CMap {
		return len(v.List) == 0
	}
	return f.Card == api.CSingle && f.Oneof == 0 && f.Type != api.TMessage && v.Num == 0 && v.Text == ""
}

func setRefuses(t *testing.T, s *bind.Schema, name string, m api.Value, p string, v api.Value, want api.Errno) {
	t.Helper()
	if got, e := path.Set(s, name, m, p, v); e != want || !same(got, api.Value{}) {
		t.Errorf("P1307: Set(%.40q, %s, %.80q, %s) = %s, %v, want %v", name, short(m), p, short(v), short(got), e, want)
	}
}

// clears looks at the tree without what stands at a path.
func clears(t *testing.T, s *bind.Schema, name string, m api.Value, p string, want api.Value) {
	t.Helper()
	got, e := path.Clear(s, name, m, p)
	if e != api.OK || !same(got, want) {
		t.Errorf("P1308: Clear(%s, %.80q) = %s, %v, want %s", short(m), p, short(got), e, short(want))
	}
	if _, ok, e := path.Get(s, name, m, p); !ok || e != api.OK {
		t.Errorf("P1308: Clear(%s, %.80q) is OK, Get answers %v, %v", short(m), p, ok, e)
	}
}

func clearRefuses(t *testing.T, s *bind.Schema, name string, m api.Value, p string, want api.Errno) {
	t.Helper()
	if got, e := path.Clear(s, name, m, p); e != want || !same(got, api.Value{}) {
		t.Errorf("P1308: Clear(%.40q, %s, %.80q) = %s, %v, want %v", name, short(m), p, short(got), e, want)
	}
}

// keeps looks at what a mask keeps of a tree, once and twice.
func keeps(t *testing.T, s *bind.Schema, name string, m, want api.Value, mask ...string) {
	t.Helper()
	got, e := path.Keep(s, name, m, mask)
	if e != api.OK || !same(got, want) {
		t.Errorf("P1310: Keep(%s, %s) = %s, %v, want %s", short(m), some(mask), short(got), e, short(want))
	}
	if again, e := path.Keep(s, name, got, mask); e != api.OK || !same(again, got) {
		t.Errorf("P1312: Keep(%s, %s) = %s, %v, want the same", short(got), some(mask), short(again), e)
	}
}

// strips looks at what is left of a tree without what a mask names, once and twice.
func strips(t *testing.T, s *bind.Schema, name string, m, want api.Value, mask ...string) {
	t.Helper()
	got, e := path.Strip(s, name, m, mask)
	if e != api.OK || !same(got, want) {
		t.Errorf("P1311: Strip(%s, %s) = %s, %v, want %s", short(m), some(mask), short(got), e, short(want))
	}
	if again, e := path.Strip(s, name, got, mask); e != api.OK || !same(again, got) {
		t.Errorf("P1312: Strip(%s, %s) = %s, %v, want the same", short(got), some(mask), short(again), e)
	}
}

// maskRefuses looks at the error of a mask.
func maskRefuses(t *testing.T, s *bind.Schema, name string, m api.Value, want api.Errno, mask ...string) {
	t.Helper()
	kept, e := path.Keep(s, name, m, mask)
	stripped, bad := path.Strip(s, name, m, mask)
	if e != want || bad != want || !same(kept, api.Value{}) || !same(stripped, api.Value{}) {
		t.Errorf("P1309: Keep and Strip(%.40q, %s, %s): %v, %v, want %v", name, short(m), some(mask), e, bad, want)
	}
}

// tells looks at the leaves of a tree, and at what P1314 says of them.
func tells(t *testing.T, s *bind.Schema, name string, m api.Value, want ...string) {
	t.Helper()
	got, e := path.Leaves(s, name, m)
	if e != api.OK || !slices.Equal(got, want) {
		t.Errorf("P1313: Leaves(%s) = %s, %v, want %s", short(m), some(got), e, some(want))
		return
	}
	rebuilds(t, s, name, m, got)
}

// rebuilds looks at P1314.
func rebuilds(t *testing.T, s *bind.Schema, name string, m api.Value, leaves []string) {
	t.Helper()
	so := msg()
	for _, p := range leaves {
		v, ok, e := path.Get(s, name, m, p)
		if !ok || e != api.OK {
			t.Errorf("P1314: Get(%s, %.80q) = %s, %v, %v", short(m), p, short(v), ok, e)
		}
		if so, e = path.Set(s, name, so, p, v); e != api.OK {
			t.Errorf("P1314: Set at %.80q of %s: %v", p, short(v), e)
			return
		}
	}
	if !same(so, m) {
		t.Errorf("P1314: Set at all leaves comes to %s, want %s", short(so), short(m))
	}
}

func leavesRefuse(t *testing.T, s *bind.Schema, name string, m api.Value, want api.Errno) {
	t.Helper()
	if got, e := path.Leaves(s, name, m); e != want || len(got) > 0 {
		t.Errorf("P1313: Leaves(%.40q, %s) = %s, %v, want %v", name, short(m), some(got), e, want)
	}
}
