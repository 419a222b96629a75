package tree_test

import (
	"fmt"
	"slices"
	"strings"
	"testing"

	"sigil/api"
	"sigil/bind"
	"sigil/tree"
)

// small is the schema of the document's examples.
const small = `syntax = "proto3"; package p; message M { int32 a = 1; string b = 2; repeated sint32 c = 3; map<string, M> d = 4; optional bool e = 5; oneof o { fixed32 f = 6; M g = 7; } }`

// words are the words of the types, by type.
var words = []string{"", "double", "float", "int32", "int64", "uint32", "uint64", "sint32", "sint64", "fixed32", "fixed64", "sfixed32", "sfixed64", "bool", "string", "bytes", "E", "W"}

// The numbers of the wide schema's fields: of each type one that is single, optional, repeated, a map's value, a member of the oneof o; of each type of keys a map. To each the type is added.
const (
	single   = 0
	optional = 20
	repeated = 40
	mapped   = 60
	keyed    = 80
	member   = 100
)

// More fields of the wide schema.
const (
	otherA = 121 // members of the oneof x
	otherB = 19
	otherM = 39
	far    = 536870911 // a single int32
	ofV    = 200       // a single V
	listV  = 201       // repeated V
	mapV   = 202       // map<uint64, V>
	tail   = 210       // a single string
)

// keyTypes are the types that a map's keys have.
var keyTypes = []int{api.TInt32, api.TInt64, api.TUint32, api.TUint64, api.TSint32, api.TSint64, api.TFixed32, api.TFixed64, api.TSfixed32, api.TSfixed64, api.TBool, api.TString}

// wide is a schema that has every type with every card.
func wide() string {
	var b strings.Builder
	b.WriteString(`syntax = "proto3"; package w; enum E { Z = 0; A = 1; } message V { int32 a = 1; W w = 2; } message W {`)
	for typ := api.TDouble; typ <= api.TMessage; typ++ {
		fmt.Fprintf(&b, "%[1]s s%[2]d = %[2]d; optional %[1]s o%[2]d = %[3]d; repeated %[1]s r%[2]d = %[4]d; map<string, %[1]s> m%[2]d = %[5]d;", words[typ], typ, optional+typ, repeated+typ, mapped+typ)
	}
	for _, key := range keyTypes {
		fmt.Fprintf(&b, "map<%s, int32> k%d = %d;", words[key], key, keyed+key)
	}
	b.WriteString("oneof o {")
	for typ := api.TDouble; typ <= api.TMessage; typ++ {
		fmt.Fprintf(&b, "%s x%d = %d;", words[typ], typ, member+typ)
	}
	fmt.Fprintf(&b, "} oneof x { int32 xa = %d; string xb = %d; W xm = %d; }", otherA, otherB, otherM)
	fmt.Fprintf(&b, "int32 far = %d; V v = %d; repeated V lv = %d; map<uint64, V> mv = %d; string tail = %d; }", far, ofV, listV, mapV, tail)
	return b.String()
}

// load is the schema of one text.
func load(t testing.TB, text string) *bind.Schema {
	t.Helper()
	s, bad := bind.Load([]api.Source{{Name: "f", Text: text}})
	if bad.Err != api.OK {
		t.Fatalf("Load: %+v", bad)
	}
	return s
}

func num(v int) api.Value                  { return api.Value{Kind: api.VNum, Num: v} }
func text(v string) api.Value              { return api.Value{Kind: api.VText, Text: v} }
func msg(l ...api.Entry) api.Value         { return api.Value{Kind: api.VMessage, Fields: l} }
func at(i int, v api.Value) api.Entry      { return api.Entry{Number: i, Value: v} }
func list(l ...api.Value) api.Value        { return api.Value{Kind: api.VList, List: l} }
func dict(l ...api.Value) api.Value        { return api.Value{Kind: api.VMap, List: l} }
func pair(l ...api.Value) api.Value        { return api.Value{Kind: api.VPair, List: l} }
func one(i int, v api.Value) api.Value     { return msg(at(i, v)) }
func kv(key string, v api.Value) api.Value { return pair(text(key), v) }

// trail is a trail that was written out.
func trail(l ...int) []int { return l }

// joined is one trail behind another.
func joined(l ...[]int) []int { return slices.Concat(l...) }

// times is a trail of the same steps again and again.
func times(n int, l ...int) []int { return slices.Repeat(l, n) }

// same says whether values are the same, nil and empty lists too.
func same(a, b any) bool { return fmt.Sprintf("%+v", a) == fmt.Sprintf("%+v", b) }

// short tells a tree in not too many letters; what is deep or long is left out.
func short(v api.Value) string { return shortTo(v, 8) }

func shortTo(v api.Value, levels int) string {
	if levels == 0 {
		return ".."
	}
	var b strings.Builder
	fmt.Fprintf(&b, "{%d %d %.20q", v.Kind, v.Num, v.Text)
	for i, in := range v.List {
		if i == 8 {
			b.WriteString(" ..")
			break
		}
		b.WriteString(" " + shortTo(in, levels-1))
	}
	for i, in := range v.Fields {
		if i == 8 {
			b.WriteString(" ..")
			break
		}
		fmt.Fprintf(&b, " %d:%s", in.Number, shortTo(in.Value, levels-1))
	}
	return b.String() + "}"
}

// chain puts a value into messages of a field, one in another.
func chain(n, number int, v api.Value) api.Value {
	for range n {
		v = one(number, v)
	}
	return v
}

// nested puts a value into lists, one in another.
func nested(n int, v api.Value) api.Value {
	for range n {
		v = list(v)
	}
	return v
}

// answer is what a call says of a tree.
type answer struct {
	e  api.Errno
	at []int
}

func fine() answer                            { return answer{} }
func fault(e api.Errno, l ...int) answer      { return answer{e, l} }
func (a answer) String() string               { return fmt.Sprint(a.e, " at ", a.at) }
func (a answer) is(e api.Errno, l []int) bool { return a.e == e && slices.Equal(a.at, l) }

// typed, normal, normalise, size and walk are the calls that are handed a schema: what they answer, with a look at what stands beside an error.
func typed(t *testing.T, s *bind.Schema, name string, v api.Value) answer {
	l, e := tree.Typed(s, name, v)
	return answer{e, l}
}

func normal(t *testing.T, s *bind.Schema, name string, v api.Value) answer {
	l, e := tree.Normal(s, name, v)
	return answer{e, l}
}

func normalise(t *testing.T, s *bind.Schema, name string, v api.Value) answer {
	t.Helper()
	out, l, e := tree.Normalise(s, name, v)
	if e != api.OK && !same(out, api.Value{}) {
		t.Errorf("P4: Normalise answers %s beside %v", short(out), e)
	}
	return answer{e, l}
}

func size(t *testing.T, s *bind.Schema, name string, v api.Value) answer {
	t.Helper()
	n, l, e := tree.Size(s, name, v)
	if e != api.OK && n != 0 {
		t.Errorf("P4: Size answers %d beside %v", n, e)
	}
	return answer{e, l}
}

// walk has no trail to tell.
func walk(t *testing.T, s *bind.Schema, name string, v api.Value) answer {
	t.Helper()
	q, e := tree.Walk(s, name, v)
	if (q == nil) != (e != api.OK) {
		t.Errorf("P810: Walk answers a sequence: %v, beside %v", q != nil, e)
	}
	return answer{e: e}
}

// check looks at what all five calls say of a tree: loose of those that do not ask whether it is normal, strict of those that do.
func check(t *testing.T, s *bind.Schema, name string, v api.Value, loose, strict answer) {
	t.Helper()
	for _, c := range []struct {
		call string
		got  answer
		want answer
	}{
		{"Typed", typed(t, s, name, v), loose}, {"Normalise", normalise(t, s, name, v), loose}, {"Walk", walk(t, s, name, v), answer{e: loose.e}},
		{"Normal", normal(t, s, name, v), strict}, {"Size", size(t, s, name, v), strict},
	} {
		if !c.want.is(c.got.e, c.got.at) {
			t.Errorf("%s(%.40q, %s) = %v, want %v", c.call, name, short(v), c.got, c.want)
		}
	}
}

// meant looks at the normal tree that a tree means, and what follows of it.
func meant(t *testing.T, s *bind.Schema, name string, v, want api.Value) {
	t.Helper()
	for _, from := range []api.Value{v, want} {
		got, l, e := tree.Normalise(s, name, from)
		if e != api.OK || len(l) > 0 || !same(got, want) {
			t.Errorf("P804: Normalise(%s) = %s, %v, %v, want %s", short(from), short(got), l, e, short(want))
		}
	}
	if l, e := tree.Normal(s, name, want); e != api.OK {
		t.Errorf("P804: Normal of %s answers %v, %v", short(want), l, e)
	}
}

// sized looks at a tree's size.
func sized(t *testing.T, s *bind.Schema, name string, v api.Value, want int) {
	t.Helper()
	if n, l, e := tree.Size(s, name, v); n != want || e != api.OK || len(l) > 0 {
		t.Errorf("P808: Size(%s) = %d, %v, %v, want %d", short(v), n, l, e, want)
	}
}

// ordered looks at two trees from both sides.
func ordered(t *testing.T, a, b api.Value, want int) {
	t.Helper()
	if got := tree.Compare(a, b); got != want {
		t.Errorf("P805: Compare(%s, %s) = %d, want %d", short(a), short(b), got, want)
	}
	if got := tree.Compare(b, a); got != -want {
		t.Errorf("P811: Compare(%s, %s) = %d, want %d", short(b), short(a), got, -want)
	}
	if tree.Equal(a, b) != (want == 0) || tree.Equal(b, a) != (want == 0) {
		t.Errorf("P805: Equal(%s, %s) = %v, %v", short(a), short(b), tree.Equal(a, b), tree.Equal(b, a))
	}
}

// keys looks at two keys from both sides.
func keys(t *testing.T, keyType int, a, b api.Value, want int) {
	t.Helper()
	if got := tree.Keys(keyType, a, b); got != want {
		t.Errorf("P806: Keys(%d, %s, %s) = %d, want %d", keyType, short(a), short(b), got, want)
	}
	if got := tree.Keys(keyType, b, a); got != -want {
		t.Errorf("P811: Keys(%d, %s, %s) = %d, want %d", keyType, short(b), short(a), got, -want)
	}
}

// deep looks at a tree's depth.
func deep(t *testing.T, v api.Value, want int) {
	t.Helper()
	if got := tree.Depth(v); got != want {
		t.Errorf("P807: Depth(%s) = %d, want %d", short(v), got, want)
	}
}
