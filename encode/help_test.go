package encode_test

import (
	"bytes"
	"encoding/hex"
	"fmt"
	"slices"
	"strings"
	"sync"
	"testing"

	"sigil/api"
	"sigil/bind"
	"sigil/encode"
)

// small is the schema of the document's examples.
const small = `syntax = "proto3"; package p; message M { int32 a = 1; string b = 2; repeated sint32 c = 3; map<string, M> d = 4; optional bool e = 5; oneof o { fixed32 f = 6; M g = 7; } }`

// words are the words of the types, by type.
var words = []string{"", "double", "float", "int32", "int64", "uint32", "uint64", "sint32", "sint64", "fixed32", "fixed64", "sfixed32", "sfixed64", "bool", "string", "bytes", "E", "W"}

// The numbers of the fields of w.W: of each type one that is single, optional, repeated, a map's value, a member of the oneof o; of each type of keys a map. To each the type is added.
const (
	single   = 0
	optional = 20
	repeated = 40
	mapped   = 60
	keyed    = 80
	member   = 100
)

// More fields of w.W.
const (
	ofV   = 200 // a single V
	listV = 201 // repeated V
	mapV  = 202 // map<uint64, V>
	ofU   = 203 // a single U
	tail  = 210 // a single string
	far   = 536870911
)

// keyTypes are the types that a map's keys have.
var keyTypes = []int{api.TInt32, api.TInt64, api.TUint32, api.TUint64, api.TSint32, api.TSint64, api.TFixed32, api.TFixed64, api.TSfixed32, api.TSfixed64, api.TBool, api.TString}

// wide is a schema that has every type with every card, and three messages that hold one another and themselves.
func wide() string {
	var b strings.Builder
	b.WriteString(`syntax = "proto3"; package w; enum E { Z = 0; A = 1; } message V { sint32 a = 1; W w = 2; repeated U u = 3; } `)
	b.WriteString(`message U { fixed32 a = 1; map<bool, U> u = 2; oneof o { V v = 3; string s = 4; } optional bytes b = 5; } message W {`)
	for typ := api.TDouble; typ <= api.TMessage; typ++ {
		fmt.Fprintf(&b, "%[1]s s%[2]d = %[2]d; optional %[1]s o%[2]d = %[3]d; repeated %[1]s r%[2]d = %[4]d; map<string, %[1]s> m%[2]d = %[5]d;", words[typ], typ, optional+typ, repeated+typ, mapped+typ)
	}
	for _, key := range keyTypes {
		fmt.Fprintf(&b, "map<%s, int32> k%d = %d;", words[key], key, keyed+key)
	}
	b.WriteString("oneof o {")
	for typ := api.TDouble; typ <= api.TMessage; typ++ {
		fmt.Fprintf(&b, "%s x%d = %d;", words[typ], typ, member+typ)
	}
	fmt.Fprintf(&b, "} V v = %d; repeated V lv = %d; map<uint64, V> mv = %d; U u = %d; string tail = %d; int32 far = %d; }", ofV, listV, mapV, ofU, tail, far)
	return b.String()
}

// load is the schema of one text.
func load(t testing.TB, text string) *bind.Schema {
	t.Helper()
	s, bad := bind.Load([]api.Source{{Name: "f", Text: text}})
	if bad.Err != api.OK {
		t.Fatalf("Load: %+v", bad)
	}
	return s
}

// wideSchema is the wide schema, loaded once.
var wideSchema = sync.OnceValue(func() *bind.Schema {
	s, _ := bind.Load([]api.Source{{Name: "f", Text: wide()}})
	return s
})

func num(v int) api.Value                  { return api.Value{Kind: api.VNum, Num: v} }
func text(v string) api.Value              { return api.Value{Kind: api.VText, Text: v} }
func msg(l ...api.Entry) api.Value         { return api.Value{Kind: api.VMessage, Fields: l} }
func at(i int, v api.Value) api.Entry      { return api.Entry{Number: i, Value: v} }
func list(l ...api.Value) api.Value        { return api.Value{Kind: api.VList, List: l} }
func dict(l ...api.Value) api.Value        { return api.Value{Kind: api.VMap, List: l} }
func pair(l ...api.Value) api.Value        { return api.Value{Kind: api.VPair, List: l} }
func one(i int, v api.Value) api.Value     { return msg(at(i, v)) }
func kv(key string, v api.Value) api.Value { return pair(text(key), v) }

// chain puts a value into messages of a field, one in another.
func chain(n, number int, v api.Value) api.Value {
	for range n {
		v = one(number, v)
	}
	return v
}

// nested puts a value into lists, one in another.
func nested(n int, v api.Value) api.Value {
	for range n {
		v = list(v)
	}
	return v
}

// row is bytes written as hexadecimal digits with blanks between.
func row(digits string) []byte {
	b, err := hex.DecodeString(strings.ReplaceAll(digits, " ", ""))
	if err != nil {
		panic(err)
	}
	return b
}

// short tells a tree in not too many letters; what is deep or long is left out.
func short(v api.Value) string { return shortTo(v, 8) }

func shortTo(v api.Value, levels int) string {
	if levels == 0 {
		return ".."
	}
	var b strings.Builder
	fmt.Fprintf(&b, "{%d %d %.20q", v.Kind, v.Num, v.Text)
	for i, in := range v.List[:min(8, len(v.List))] {
		fmt.Fprintf(&b, " %d:%s", i, shortTo(in, levels-1))
	}
	for _, in := range v.Fields[:min(8, len(v.Fields))] {
		fmt.Fprintf(&b, " %d:%s", in.Number, shortTo(in.Value, levels-1))
	}
	return b.String() + "}"
}

// some tells the first of many bytes.
func some(b []byte) string {
	return fmt.Sprintf("%d bytes % x", len(b), b[:min(len(b), 40)])
}

// refused looks whether all four calls refuse a tree: Field by its own error, the others by theirs; and whether nothing stands beside an error.
func refused(t *testing.T, e *encode.Encoder, name string, v api.Value, number int, want, wantField api.Errno) {
	t.Helper()
	b, x := e.Encode(name, v)
	n, y := e.Size(name, v)
	f, z := e.Field(name, v, number)
	l, u := e.Spans(name, v)
	if x != want || y != want || u != want || z != wantField {
		t.Errorf("P901: of %.40q, %s: Encode, Size and Spans answer %v, %v, %v, want %v; Field %d answers %v, want %v", name, short(v), x, y, u, want, number, z, wantField)
	}
	if x != api.OK && len(b) > 0 || y != api.OK && n != 0 || z != api.OK && len(f) > 0 || u != api.OK && len(l) > 0 {
		t.Errorf("P901: of %.40q, %s: %s, %d, %s, %v stand beside errors", name, short(v), some(b), n, some(f), l)
	}
}

// written looks whether a tree is written as these bytes, and whether Size, Spans and Field (of every number of the type) say the same of them.
func written(t *testing.T, s *bind.Schema, e *encode.Encoder, name string, v api.Value, want []byte) {
	t.Helper()
	b, x := e.Encode(name, v)
	if x != api.OK || !bytes.Equal(b, want) {
		t.Errorf("P903: Encode(%s) = %s, %v, want %s", short(v), some(b), x, some(want))
		return
	}
	if n, x := e.Size(name, v); x != api.OK || n != len(want) {
		t.Errorf("P903: Size(%s) = %d, %v, want %d", short(v), n, x, len(want))
	}
	spans, x := e.Spans(name, v)
	if x != api.OK || len(spans) != len(v.Fields) {
		t.Errorf("P904: Spans(%s) = %v, %v", short(v), spans, x)
		return
	}
	from := 0
	byNumber := map[int]api.Span{}
	for i, p := range spans {
		if p.Number != v.Fields[i].Number || p.From != from || p.To <= from {
			t.Errorf("P905: Spans(%s) = %v", short(v), spans)
		}
		from = p.To
		byNumber[p.Number] = p
	}
	if from != len(want) {
		t.Errorf("P905: Spans(%s) end at %d, the size is %d", short(v), from, len(want))
		return
	}
	info, _ := s.Message(name)
	var all []byte
	for _, f := range info.Fields {
		p := byNumber[f.Number]
		b, x := e.Field(name, v, f.Number)
		if x != api.OK || !bytes.Equal(b, want[p.From:p.To]) {
			t.Errorf("P904: Field %d of %s = %s, %v, want %s", f.Number, short(v), some(b), x, some(want[p.From:p.To]))
		}
		all = append(all, b...)
	}
	if !bytes.Equal(all, want) {
		t.Errorf("P905: the Fields of %s are %s, want %s", short(v), some(all), some(want))
	}
}

// fresh is written by an Encoder that was asked of nothing before.
func fresh(t *testing.T, s *bind.Schema, name string, v api.Value, want ...[]byte) {
	t.Helper()
	written(t, s, encode.New(s), name, v, slices.Concat(want...))
}
