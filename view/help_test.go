package view_test

import (
	"encoding/binary"
	"encoding/hex"
	"fmt"
	"slices"
	"strings"
	"sync"
	"testing"

	"sigil/api"
	"sigil/bind"
	"sigil/path"
	"sigil/tree"
	"sigil/view"
)

// small is the schema of the document's examples.
const small = `syntax = "proto3"; package p; message M { int32 a = 1; string b = 2; repeated sint32 c = 3; map<string, M> d = 4; optional bool e = 5; oneof o { fixed32 f = 6; M g = 7; } }`

// words are the words of the types, by type.
var words = []string{"", "double", "float", "int32", "int64", "uint32", "uint64", "sint32", "sint64", "fixed32", "fixed64", "sfixed32", "sfixed64", "bool", "string", "bytes", "E", "W"}

// The numbers of the fields of w.W: of each type one that is single, optional, repeated, a map's value, a member of the oneof o; of each type of keys a map. To each the type is added. Their names are a letter (s, o, r, m, x, k) with the type.
const (
	single   = 0
	optional = 20
	repeated = 40
	mapped   = 60
	keyed    = 80
	member   = 100
)

// More fields of w.W. There is none of the numbers 18 and 19.
const (
	other = 180 // q0, a member of the oneof q, a bool; the next one is q1, an int64
	ofV   = 200 // v, a single V
	listV = 201 // lv, repeated V
	mapV  = 202 // mv, map<uint64, V>
	ofU   = 203 // u, a single U
	tail  = 210 // tail, a single string
)

// keyTypes are the types that a map's keys have.
var keyTypes = []int{api.TInt32, api.TInt64, api.TUint32, api.TUint64, api.TSint32, api.TSint64, api.TFixed32, api.TFixed64, api.TSfixed32, api.TSfixed64, api.TBool, api.TString}

// wide is a schema that has every type with every card, and three messages that hold one another and themselves.
func wide() string {
	var b strings.Builder
	b.WriteString(`syntax = "proto3"; package w; enum E { Z = 0; A = 1; } message V { sint32 a = 1; W w = 2; repeated U u = 3; } `)
	b.WriteString(`message U { fixed32 a = 1; map<bool, U> u = 2; oneof o { V v = 3; string s = 4; } optional bytes b = 5; } message W {`)
	for typ := api.TDouble; typ <= api.TMessage; typ++ {
		fmt.Fprintf(&b, "%[1]s s%[2]d = %[2]d; optional %[1]s o%[2]d = %[3]d; repeated %[1]s r%[2]d = %[4]d; map<string, %[1]s> m%[2]d = %[5]d;", words[typ], typ, optional+typ, repeated+typ, mapped+typ)
	}
	for _, key := range keyTypes {
		fmt.Fprintf(&b, "map<%s, int32> k%d = %d;", words[key], key, keyed+key)
	}
	b.WriteString("oneof o {")
	for typ := api.TDouble; typ <= api.TMessage; typ++ {
		fmt.Fprintf(&b, "%s x%d = %d;", words[typ], typ, member+typ)
	}
	fmt.Fprintf(&b, "} oneof q { bool q0 = %d; int64 q1 = %d; } V v = %d; repeated V lv = %d; map<uint64, V> mv = %d; U u = %d; string tail = %d; }", other, other+1, ofV, listV, mapV, ofU, tail)
	return b.String()
}

// Numbers that no field has: neither of the messages of the wide schema, nor of the small one, nor of a pair.
const (
	unknown = 18
	strange = 19
)

// load is the schema of one text.
func load(t testing.TB, text string) *bind.Schema {
	t.Helper()
	s, bad := bind.Load([]api.Source{{Name: "f", Text: text}})
	if bad.Err != api.OK {
		t.Fatalf("Load: %+v", bad)
	}
	return s
}

// smallSchema and wideSchema are loaded once.
var smallSchema = sync.OnceValue(func() *bind.Schema {
	s, _ := bind.Load([]api.Source{{Name: "f", Text: small}})
	return s
})

var wideSchema = sync.OnceValue(func() *bind.Schema {
	s, _ := bind.Load([]api.Source{{Name: "f", Text: wide()}})
	return s
})

func num(v int) api.Value                  { return api.Value{Kind: api.VNum, Num: v} }
func text(v string) api.Value              { return api.Value{Kind: api.VText, Text: v} }
func msg(l ...api.Entry) api.Value         { return api.Value{Kind: api.VMessage, Fields: l} }
func at(i int, v api.Value) api.Entry      { return api.Entry{Number: i, Value: v} }
func list(l ...api.Value) api.Value        { return api.Value{Kind: api.VList, List: l} }
func dict(l ...api.Value) api.Value        { return api.Value{Kind: api.VMap, List: l} }
func pair(l ...api.Value) api.Value        { return api.Value{Kind: api.VPair, List: l} }
func one(i int, v api.Value) api.Value     { return msg(at(i, v)) }
func kv(key string, v api.Value) api.Value { return pair(text(key), v) }

// row is bytes written as hexadecimal digits with blanks between.
func row(digits string) []byte {
	b, err := hex.DecodeString(strings.ReplaceAll(digits, " ", ""))
	if err != nil {
		panic(err)
	}
	return b
}

// rows are pieces of bytes, one behind the other.
func rows(l ...[]byte) []byte { return slices.Concat(l...) }

// varint is the shortest varint, tag that of a number and a wire kind: both written by the library.
func varint(n int) []byte { return binary.AppendUvarint(nil, uint64(n)) }

func tag(number, kind int) []byte { return varint(number*8 + kind) }

// record is a record of kind 2.
func record(number int, content ...[]byte) []byte {
	all := rows(content...)
	return rows(tag(number, 2), varint(len(all)), all)
}

// kindOf is the wire kind of a type.
func kindOf(typ int) int {
	switch typ {
	case api.TFixed32, api.TSfixed32, api.TFloat:
		return 5
	case api.TFixed64, api.TSfixed64, api.TDouble:
		return 1
	case api.TString, api.TBytes, api.TMessage:
		return 2
	}
	return 0
}

// some tells the first of many bytes.
func some(b []byte) string { return fmt.Sprintf("%d bytes % x", len(b), b[:min(len(b), 60)]) }

// same says whether two trees are the same in all that they hold.
func same(a, b api.Value) bool {
	return a.Kind == b.Kind && a.Num == b.Num && a.Text == b.Text && slices.EqualFunc(a.List, b.List, same) &&
		slices.EqualFunc(a.Fields, b.Fields, func(x, y api.Entry) bool { return x.Number == y.Number && same(x.Value, y.Value) })
}

// short tells a tree, or another answer, in not too many letters.
func short(v any) string {
	s := fmt.Sprintf("%v", v)
	return s[:min(len(s), 300)]
}

// glass is a view, and what it was opened with.
type glass struct {
	*view.View
	s    *bind.Schema
	name string
	b    []byte
}

// open opens a view. The bytes that it was handed are written over.
func open(t testing.TB, s *bind.Schema, name string, b []byte) glass {
	t.Helper()
	in := append(slices.Clone(b), "room"...)[:len(b)]
	v, place, e := view.Open(s, name, in)
	if v == nil || place != 0 || e != api.OK {
		t.Fatalf("P2108: Open(%q, %s): %v at %d", name, some(b), e, place)
	}
	for i := range in[:cap(in)] {
		in[:cap(in)][i] ^= 0xff
	}
	return glass{v, s, name, b}
}

// opens is a view of the type of the small schema.
func opens(t testing.TB, digits string) glass {
	t.Helper()
	return open(t, smallSchema(), "p.M", row(digits))
}

// refuses looks whether bytes are refused at a place.
func refuses(t testing.TB, s *bind.Schema, name string, b []byte, place int, want api.Errno) {
	t.Helper()
	if v, at, e := view.Open(s, name, b); v != nil || at != place || e != want {
		t.Errorf("P2108: Open(%.40q, %s): %v, %v at %d, want %v at %d", name, some(b), v != nil, e, at, want, place)
	}
}

// noMany and noMessage are answered of a path that leads to no such thing, by its type.
const (
	noMany    = api.ErrWhole
	noMessage = api.ErrNoMessage
)

// asked looks whether all questions answer what is wanted at a path. Wanted are: of Has a bool, of Get a Value, of Len and Each a number, of Bytes and At a text, of which the bytes are meant; nil, if nothing stands there; of each the error, if it answers one.
func (g glass) asked(t testing.TB, p string, has, got, size, content any) {
	t.Helper()
	if there, e := g.Has(p); !answers(has, there, e, there) {
		t.Errorf("P2102: %s: Has(%.100q) = %v, %v, want %v", some(g.b), p, there, e, has)
	}
	if v, there, e := g.Get(p); !answers(got, v, e, there) || !there && !same(v, api.Value{}) {
		t.Errorf("P2103: %s: Get(%.100q) = %s, %v, %v, want %s", some(g.b), p, short(v), there, e, short(got))
	}
	if n, e := g.Len(p); !answers(size, n, e, e == api.OK) || e != api.OK && n != 0 {
		t.Errorf("P2104: %s: Len(%.100q) = %d, %v, want %v", some(g.b), p, n, e, size)
	}
	if b, there, e := g.Bytes(p); !answers(content, string(b), e, there) || !there && len(b) > 0 {
		t.Errorf("P2105: %s: Bytes(%.100q) = %s, %v, %v, want %x", some(g.b), p, some(b), there, e, content)
	}
	g.viewed(t, p, content)
	g.ranged(t, p, size)
}

// answers says whether an answer is the one that is wanted: an error alone, or a thing that is there, or nothing.
func answers(want, got any, e api.Errno, there bool) bool {
	switch want := want.(type) {
	case api.Errno:
		return e == want && !there
	case nil:
		return e == api.OK && !there
	case bool:
		return e == api.OK && got == want
	case api.Value:
		return e == api.OK && there && same(got.(api.Value), want)
	}
	return e == api.OK && there && got == want
}

// viewed looks whether At answers a view just where Bytes answers bytes, and whether it stands on these.
func (g glass) viewed(t testing.TB, p string, content any) {
	t.Helper()
	v, there, e := g.At(p)
	want, _ := content.(api.Errno)
	if e != want || there != (v != nil) {
		t.Errorf("P2106: %s: At(%.100q) = %v, %v, %v, want %x", some(g.b), p, v != nil, there, e, content)
		return
	}
	if _, stands := content.(string); there != stands {
		t.Errorf("P2106: %s: At(%.100q) = %v, want %x", some(g.b), p, there, content)
		return
	}
	if !there {
		return
	}
	if b, ok, e := v.Bytes(""); string(b) != content || !ok || e != api.OK {
		t.Errorf("P2106: %s: At(%.100q) stands on %s, %v, %v, want %x", some(g.b), p, some(b), ok, e, content)
	}
}

// ranged looks whether Each answers so many steps as Len, in their order, each with the view that At answers of it.
func (g glass) ranged(t testing.TB, p string, size any) {
	t.Helper()
	all, e := g.Each(p)
	if want, _ := size.(api.Errno); e != want || (all == nil) != (e != api.OK) {
		t.Errorf("P2107: %s: Each(%.100q): %v, %v, want %v", some(g.b), p, all != nil, e, size)
		return
	}
	if all == nil {
		return
	}
	steps, _ := path.Parse(g.s, g.name, p)
	f := leads(g.s, g.name, steps)
	n, before := 0, api.Value{}
	for st, in := range all {
		want := api.Step{Kind: api.SIndex, Number: n}
		if f.Card == api.CMap {
			want = api.Step{Kind: api.SKey, Key: st.Key}
			if n > 0 && tree.Keys(f.Key, before, st.Key) >= 0 {
				t.Errorf("P2107: %s: Each(%.100q): the key %s behind %s", some(g.b), p, short(st.Key), short(before))
			}
			before = st.Key
		}
		if st.Kind != want.Kind || st.Number != want.Number || !same(st.Key, want.Key) || (in != nil) != (f.Type == api.TMessage) {
			t.Errorf("P2107: %s: Each(%.100q): step %d: %+v, %v, want %+v", some(g.b), p, n, st, in != nil, want)
		}
		if n++; n < 20 {
			g.stepped(t, append(slices.Clone(steps), st), in)
		}
	}
	if n != size {
		t.Errorf("P2107: %s: Each(%.100q): %d steps, want %v", some(g.b), p, n, size)
	}
}

// stepped looks whether something stands at the end of steps that Each told, and whether the view that it told with them is the one that At answers.
func (g glass) stepped(t testing.TB, steps []api.Step, in *view.View) {
	t.Helper()
	p, e := path.Print(g.s, g.name, steps)
	if e != api.OK {
		return
	}
	if there, e := g.Has(p); !there || e != api.OK {
		t.Errorf("P2107: %s: a step to %.100q, of which Has says %v, %v", some(g.b), p, there, e)
	}
	if in == nil {
		return
	}
	b, _, _ := in.Bytes("")
	if want, there, e := g.Bytes(p); string(b) != string(want) || !there || e != api.OK {
		t.Errorf("P2107: %s: a view at %.100q of %s, want %s, %v, %v", some(g.b), p, some(b), some(want), there, e)
	}
}

// leads tells the field that says what may stand at the end of steps; a value of a list or map has it as a single one.
func leads(s *bind.Schema, name string, steps []api.Step) api.Field {
	f := api.Field{Card: api.CSingle, Type: api.TMessage, Of: name}
	for _, st := range steps {
		if st.Kind == api.SField {
			f, _ = s.Field(f.Of, st.Number)
		} else {
			f.Card = api.CSingle
		}
	}
	return f
}

// scalar looks whether a path leads to a number or a text: it is there with what Get answers, or not there (nil), or an error is in the way.
func (g glass) scalar(t testing.TB, p string, got any) {
	t.Helper()
	_, bad := got.(api.Errno)
	if bad {
		g.asked(t, p, got, got, noMany, noMessage)
		return
	}
	g.asked(t, p, got != nil, got, noMany, noMessage)
}

// message does so of a message, with its content as hexadecimal digits, nil, or an error.
func (g glass) message(t testing.TB, p string, got any, content any) {
	t.Helper()
	if _, bad := content.(api.Errno); bad {
		g.asked(t, p, content, got, noMany, content)
		return
	}
	if digits, ok := content.(string); ok {
		content = string(row(digits))
	}
	g.asked(t, p, content != nil, got, noMany, content)
}

// many does so of a list or a map, with the number of its values, or an error.
func (g glass) many(t testing.TB, p string, got any, size any) {
	t.Helper()
	if _, bad := size.(api.Errno); bad {
		g.asked(t, p, size, got, size, noMessage)
		return
	}
	g.asked(t, p, size != 0, got, size, noMessage)
}

// fails looks whether all questions answer one error.
func (g glass) fails(t testing.TB, p string, want api.Errno) {
	t.Helper()
	g.asked(t, p, want, want, want, want)
}

// parsed are the steps of a path.
func parsed(t testing.TB, g glass, p string) []api.Step {
	t.Helper()
	steps, e := path.Parse(g.s, g.name, p)
	if e != api.OK {
		t.Fatalf("Parse(%.100q): %v", p, e)
	}
	return steps
}

// pathOf is the path of steps.
func pathOf(t testing.TB, g glass, steps []api.Step) string {
	t.Helper()
	p, e := path.Print(g.s, g.name, steps)
	if e != api.OK {
		t.Fatalf("Print(%v): %v", steps, e)
	}
	return p
}
