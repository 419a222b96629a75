package sign_test

import (
	"bytes"
	"fmt"
	"slices"
	"strings"
	"sync"
	"testing"

	"sigil/api"
	"sigil/bind"
	"sigil/digest"
	"sigil/sign"
)

// small is the schema of the document's examples.
const small = `syntax = "proto3"; package p; message M { int32 a = 1; string b = 2; repeated sint32 c = 3; map<string, M> d = 4; optional bool e = 5; oneof o { fixed32 f = 6; M g = 7; } }`

// words are the words of the types, by type.
var words = []string{"", "double", "float", "int32", "int64", "uint32", "uint64", "sint32", "sint64", "fixed32", "fixed64", "sfixed32", "sfixed64", "bool", "string", "bytes", "E", "W"}

// keyTypes are the types that a map's keys have.
var keyTypes = []int{api.TInt32, api.TInt64, api.TUint32, api.TUint64, api.TSint32, api.TSint64, api.TFixed32, api.TFixed64, api.TSfixed32, api.TSfixed64, api.TBool, api.TString}

// The numbers of the fields of w.W: of each type one that is single, optional, repeated, a map's value, a member of a oneof; of each type of keys a map. To each the type is added.
const (
	single   = 0   // s_1 ..
	optional = 20  // o_1 ..
	repeated = 40  // r_1 ..
	mapped   = 60  // m_1 ..
	keyed    = 80  // k_3 ..
	member   = 100 // x_1 ..
	ofV      = 200 // of_v, a single V
	listV    = 201 // list_v, repeated V
	mapV     = 202 // map_v, map<uint64, V>
	ofIn     = 203 // of_in, a single W.In
)

// wide is a schema that has every type with every card, and messages that hold one another and themselves.
func wide() string {
	var b strings.Builder
	b.WriteString(`syntax = "proto3"; package w; enum E { Z = 0; A = 1; } message V { sint32 a = 1; W w = 2; repeated V v = 3; oneof o { string s = 4; W.In i = 5; } } message W { message In { map<bool, W> w = 2; In.K k = 1; enum K { Y = 0; } }`)
	for typ := api.TDouble; typ <= api.TMessage; typ++ {
		fmt.Fprintf(&b, "%[1]s s_%[2]d = %[2]d; optional %[1]s o_%[2]d = %[3]d; repeated %[1]s r_%[2]d = %[4]d; map<string, %[1]s> m_%[2]d = %[5]d;", words[typ], typ, optional+typ, repeated+typ, mapped+typ)
	}
	for _, key := range keyTypes {
		fmt.Fprintf(&b, "map<%s, int32> k_%d = %d;", words[key], key, keyed+key)
	}
	b.WriteString("oneof o {")
	for typ := api.TDouble; typ <= api.TMessage; typ++ {
		fmt.Fprintf(&b, "%s x_%d = %d;", words[typ], typ, member+typ)
	}
	fmt.Fprintf(&b, "} V of_v = %d; repeated V list_v = %d; map<uint64, V> map_v = %d; In of_in = %d; }", ofV, listV, mapV, ofIn)
	return b.String()
}

// load is the schema of texts, each a source by itself; the syntax line may be left out.
func load(t testing.TB, texts ...string) *bind.Schema {
	t.Helper()
	var l []api.Source
	for i, text := range texts {
		if !strings.HasPrefix(text, "syntax") {
			text = `syntax = "proto3"; ` + text
		}
		l = append(l, api.Source{Name: fmt.Sprint("f", i), Text: text})
	}
	return loaded(t, l)
}

// loaded is the schema of sources.
func loaded(t testing.TB, l []api.Source) *bind.Schema {
	t.Helper()
	s, bad := bind.Load(l)
	if bad.Err != api.OK {
		t.Fatalf("Load(%.600q): %+v", l, bad)
	}
	return s
}

// smallSchema and wideSchema are loaded once.
var smallSchema = sync.OnceValue(func() *bind.Schema {
	s, _ := bind.Load([]api.Source{{Name: "f", Text: small}})
	return s
})

var wideSchema = sync.OnceValue(func() *bind.Schema {
	s, _ := bind.Load([]api.Source{{Name: "f", Text: wide()}})
	return s
})

func num(v int) api.Value                  { return api.Value{Kind: api.VNum, Num: v} }
func text(v string) api.Value              { return api.Value{Kind: api.VText, Text: v} }
func msg(l ...api.Entry) api.Value         { return api.Value{Kind: api.VMessage, Fields: l} }
func at(i int, v api.Value) api.Entry      { return api.Entry{Number: i, Value: v} }
func list(l ...api.Value) api.Value        { return api.Value{Kind: api.VList, List: l} }
func dict(l ...api.Value) api.Value        { return api.Value{Kind: api.VMap, List: l} }
func pair(l ...api.Value) api.Value        { return api.Value{Kind: api.VPair, List: l} }
func one(i int, v api.Value) api.Value     { return msg(at(i, v)) }
func kv(key string, v api.Value) api.Value { return pair(text(key), v) }

// example is a tree of the small schema with something of everything.
func example() api.Value {
	return msg(at(1, num(5)), at(3, list(num(1), num(-1))), at(4, dict(kv("j", msg()), kv("k", one(2, text("x"))))), at(5, num(0)), at(7, one(1, num(7))))
}

// chain puts a value into messages of a field, one in another.
func chain(n, number int, v api.Value) api.Value {
	for range n {
		v = one(number, v)
	}
	return v
}

// nested puts a value into lists, one in another.
func nested(n int, v api.Value) api.Value {
	for range n {
		v = list(v)
	}
	return v
}

// many is a list of so many numbers.
func many(n int) api.Value {
	l := make([]api.Value, n)
	for i := range l {
		l[i] = num(1)
	}
	return list(l...)
}

// manyPairs is a map with so many texts for keys.
func manyPairs(n int, v api.Value) api.Value {
	l := make([]api.Value, n)
	for i := range l {
		l[i] = kv(fmt.Sprintf("%08d", i), v)
	}
	return dict(l...)
}

// big is a text of so many bytes.
func big(n int) api.Value { return text(strings.Repeat("x", n)) }

// short tells a tree in not too many letters; what is deep or long is left out.
func short(v api.Value) string { return some(shortTo(v, 8)) }

func shortTo(v api.Value, levels int) string {
	if levels == 0 {
		return ".."
	}
	var b strings.Builder
	fmt.Fprintf(&b, "{%d %d %.20q", v.Kind, v.Num, v.Text)
	for i, in := range v.List[:min(8, len(v.List))] {
		fmt.Fprintf(&b, " %d:%s", i, shortTo(in, levels-1))
	}
	for _, in := range v.Fields[:min(8, len(v.Fields))] {
		fmt.Fprintf(&b, " %d:%s", in.Number, shortTo(in.Value, levels-1))
	}
	return b.String() + "}"
}

// some tells the beginning of what may be long.
func some(v any) string {
	s := fmt.Sprintf("%+v", v)
	return s[:min(400, len(s))]
}

// same says whether two trees are the same in all that they hold.
func same(a, b api.Value) bool {
	return a.Kind == b.Kind && a.Num == b.Num && a.Text == b.Text && slices.EqualFunc(a.List, b.List, same) &&
		slices.EqualFunc(a.Fields, b.Fields, func(x, y api.Entry) bool { return x.Number == y.Number && same(x.Value, y.Value) })
}

// sameProof says whether two proofs are the same.
func sameProof(a, b api.Proof) bool {
	return a.Path == b.Path && same(a.Value, b.Value) && slices.EqualFunc(a.Rungs, b.Rungs, func(x, y api.Rung) bool {
		return x.At == y.At && x.Of == y.Of && slices.EqualFunc(x.Beside, y.Beside, bytes.Equal)
	})
}

// prints looks at the print of a type.
func prints(t *testing.T, s *bind.Schema, name string, want []byte) {
	t.Helper()
	if d, e := sign.Type(s, name); e != api.OK || !bytes.Equal(d, want) {
		t.Errorf("P1602: Type(%.40q) = %x, %v, want %x", name, d, e, want)
	}
}

// typeRefuses looks at the error of Type.
func typeRefuses(t *testing.T, s *bind.Schema, name string, want api.Errno) {
	t.Helper()
	if d, e := sign.Type(s, name); e != want || len(d) > 0 {
		t.Errorf("P1602: Type(%.40q) = %x, %v, want %v", name, d, e, want)
	}
}

// messageRefuses looks at the error of Preimage and of Message.
func messageRefuses(t *testing.T, s *bind.Schema, name string, m api.Value, want api.Errno) {
	t.Helper()
	if b, e := sign.Preimage(s, name, m); e != want || len(b) > 0 {
		t.Errorf("P1603: Preimage(%.40q, %s) = %d bytes, %v, want %v", name, short(m), len(b), e, want)
	}
	if d, e := sign.Message(s, name, m); e != want || len(d) > 0 {
		t.Errorf("P1603: Message(%.40q, %s) = %x, %v, want %v", name, short(m), d, e, want)
	}
}

// commits looks at the commitment of a tree, by the second reading.
func commits(t *testing.T, s *bind.Schema, name string, m api.Value) []byte {
	t.Helper()
	d, e := sign.Commit(s, name, m)
	if want := secondCommit(s, name, m); e != api.OK || !bytes.Equal(d, want) {
		t.Errorf("P1606: Commit(%q, %s) = %x, %v, want %x", name, short(m), d, e, want)
	}
	return d
}

// commitRefuses looks at the error of Commit.
func commitRefuses(t *testing.T, s *bind.Schema, name string, m api.Value, want api.Errno) {
	t.Helper()
	if d, e := sign.Commit(s, name, m); e != want || len(d) > 0 {
		t.Errorf("P1606: Commit(%.40q, %s) = %x, %v, want %v", name, short(m), d, e, want)
	}
}

// opens looks at the proof of what stands at a path, by the second reading, and that it is verified.
func opens(t *testing.T, s *bind.Schema, name string, m api.Value, p string) api.Proof {
	t.Helper()
	got, e := sign.Open(s, name, m, p)
	if want := secondOpen(s, name, m, p); e != api.OK || !sameProof(got, want) {
		t.Errorf("P1607: Open(%s, %.80q) = %s, %v, want %s", short(m), p, some(got), e, some(want))
	}
	root, _ := sign.Commit(s, name, m)
	verifies(t, s, name, root, got, api.OK)
	return got
}

// openRefuses looks at the error of Open.
func openRefuses(t *testing.T, s *bind.Schema, name string, m api.Value, p string, want api.Errno) {
	t.Helper()
	if got, e := sign.Open(s, name, m, p); e != want || !sameProof(got, api.Proof{}) {
		t.Errorf("P1607: Open(%.40q, %s, %.80q) = %s, %v, want %v", name, short(m), p, some(got), e, want)
	}
}

// verifies looks at what Verify answers.
func verifies(t *testing.T, s *bind.Schema, name string, root []byte, p api.Proof, want api.Errno) {
	t.Helper()
	if e := sign.Verify(s, name, root, p); e != want {
		t.Errorf("P1608: Verify(%.40q, %d bytes, %.80q, %s, %d rungs) = %v, want %v", name, len(root), p.Path, short(p.Value), len(p.Rungs), e, want)
	}
}

// hexed is the bytes of digits.
func hexed(t testing.TB, s string) []byte {
	t.Helper()
	b, e := digest.Unhex(s)
	if e != api.OK {
		t.Fatal(e)
	}
	return b
}

// copied is a proof of its own, which may be changed.
func copied(p api.Proof) api.Proof {
	p.Rungs = slices.Clone(p.Rungs)
	for i := range p.Rungs {
		p.Rungs[i].Beside = slices.Clone(p.Rungs[i].Beside)
		for j := range p.Rungs[i].Beside {
			p.Rungs[i].Beside[j] = bytes.Clone(p.Rungs[i].Beside[j])
		}
	}
	return p
}
