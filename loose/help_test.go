package loose_test

import (
	"bytes"
	"encoding/binary"
	"encoding/hex"
	"fmt"
	"slices"
	"strings"
	"sync"
	"testing"

	"sigil/api"
	"sigil/bind"
	"sigil/encode"
	"sigil/loose"
	"sigil/tree"
)

// small is the schema of the document's examples.
const small = `syntax = "proto3"; package p; message M { int32 a = 1; string b = 2; repeated sint32 c = 3; map<string, M> d = 4; optional bool e = 5; oneof o { fixed32 f = 6; M g = 7; } }`

// words are the words of the types, by type.
var words = []string{"", "double", "float", "int32", "int64", "uint32", "uint64", "sint32", "sint64", "fixed32", "fixed64", "sfixed32", "sfixed64", "bool", "string", "bytes", "E", "W"}

// The numbers of the fields of w.W: of each type one that is single, optional, repeated, a map's value, a member of the oneof o; of each type of keys a map. To each the type is added.
const (
	single   = 0
	optional = 20
	repeated = 40
	mapped   = 60
	keyed    = 80
	member   = 100
)

// More fields of w.W. There is none of the numbers 18 and 19.
const (
	other = 180 // a member of the oneof q, a bool; the next one is an int64
	ofV   = 200 // a single V
	listV = 201 // repeated V
	mapV  = 202 // map<uint64, V>
	ofU   = 203 // a single U
	tail  = 210 // a single string
	far   = 536870911
)

// keyTypes are the types that a map's keys have.
var keyTypes = []int{api.TInt32, api.TInt64, api.TUint32, api.TUint64, api.TSint32, api.TSint64, api.TFixed32, api.TFixed64, api.TSfixed32, api.TSfixed64, api.TBool, api.TString}

// wide is a schema that has every type with every card, and three messages that hold one another and themselves.
func wide() string {
	var b strings.Builder
	b.WriteString(`syntax = "proto3"; package w; enum E { Z = 0; A = 1; } message V { sint32 a = 1; W w = 2; repeated U u = 3; } `)
	b.WriteString(`message U { fixed32 a = 1; map<bool, U> u = 2; oneof o { V v = 3; string s = 4; } optional bytes b = 5; } message W {`)
	for typ := api.TDouble; typ <= api.TMessage; typ++ {
		fmt.Fprintf(&b, "%[1]s s%[2]d = %[2]d; optional %[1]s o%[2]d = %[3]d; repeated %[1]s r%[2]d = %[4]d; map<string, %[1]s> m%[2]d = %[5]d;", words[typ], typ, optional+typ, repeated+typ, mapped+typ)
	}
	for _, key := range keyTypes {
		fmt.Fprintf(&b, "map<%s, int32> k%d = %d;", words[key], key, keyed+key)
	}
	b.WriteString("oneof o {")
	for typ := api.TDouble; typ <= api.TMessage; typ++ {
		fmt.Fprintf(&b, "%s x%d = %d;", words[typ], typ, member+typ)
	}
	fmt.Fprintf(&b, "} oneof q { bool q0 = %d; int64 q1 = %d; } V v = %d; repeated V lv = %d; map<uint64, V> mv = %d; U u = %d; string tail = %d; int32 far = %d; }", other, other+1, ofV, listV, mapV, ofU, tail, far)
	return b.String()
}

// Numbers that no field has: neither of the messages of the wide schema, nor of the small one, nor of a pair.
const (
	unknown = 18
	strange = 19
)

// load is the schema of one text.
func load(t testing.TB, text string) *bind.Schema {
	t.Helper()
	s, bad := bind.Load([]api.Source{{Name: "f", Text: text}})
	if bad.Err != api.OK {
		t.Fatalf("Load: %+v", bad)
	}
	return s
}

// smallSchema and wideSchema are loaded once.
var smallSchema = sync.OnceValue(func() *bind.Schema {
	s, _ := bind.Load([]api.Source{{Name: "f", Text: small}})
	return s
})

var wideSchema = sync.OnceValue(func() *bind.Schema {
	s, _ := bind.Load([]api.Source{{Name: "f", Text: wide()}})
	return s
})

func num(v int) api.Value                  { return api.Value{Kind: api.VNum, Num: v} }
func text(v string) api.Value              { return api.Value{Kind: api.VText, Text: v} }
func msg(l ...api.Entry) api.Value         { return api.Value{Kind: api.VMessage, Fields: l} }
func at(i int, v api.Value) api.Entry      { return api.Entry{Number: i, Value: v} }
func list(l ...api.Value) api.Value        { return api.Value{Kind: api.VList, List: l} }
func dict(l ...api.Value) api.Value        { return api.Value{Kind: api.VMap, List: l} }
func pair(l ...api.Value) api.Value        { return api.Value{Kind: api.VPair, List: l} }
func one(i int, v api.Value) api.Value     { return msg(at(i, v)) }
func kv(key string, v api.Value) api.Value { return pair(text(key), v) }

// row is bytes written as hexadecimal digits with blanks between.
func row(digits string) []byte {
	b, err := hex.DecodeString(strings.ReplaceAll(digits, " ", ""))
	if err != nil {
		panic(err)
	}
	return b
}

// rows are pieces of bytes, one behind the other.
func rows(l ...[]byte) []byte { return slices.Concat(l...) }

// varint is the shortest varint, tag that of a number and a wire kind: both written by the library.
func varint(n int) []byte { return binary.AppendUvarint(nil, uint64(n)) }

func tag(number, kind int) []byte { return varint(number*8 + kind) }

// record is a record of kind 2.
func record(number int, content ...[]byte) []byte {
	all := rows(content...)
	return rows(tag(number, 2), varint(len(all)), all)
}

// kindOf is the wire kind of a type.
func kindOf(typ int) int {
	switch typ {
	case api.TFixed32, api.TSfixed32, api.TFloat:
		return 5
	case api.TFixed64, api.TSfixed64, api.TDouble:
		return 1
	case api.TString, api.TBytes, api.TMessage:
		return 2
	}
	return 0
}

// short tells a tree in not too many letters; what is deep or long is left out.
func short(v api.Value) string { return shortTo(v, 8) }

func shortTo(v api.Value, levels int) string {
	if levels == 0 {
		return ".."
	}
	var b strings.Builder
	fmt.Fprintf(&b, "{%d %d %.20q", v.Kind, v.Num, v.Text)
	for i, in := range v.List[:min(8, len(v.List))] {
		fmt.Fprintf(&b, " %d:%s", i, shortTo(in, levels-1))
	}
	for _, in := range v.Fields[:min(8, len(v.Fields))] {
		fmt.Fprintf(&b, " %d:%s", in.Number, shortTo(in.Value, levels-1))
	}
	return b.String() + "}"
}

// some tells the first of many bytes.
func some(b []byte) string {
	return fmt.Sprintf("%d bytes % x", len(b), b[:min(len(b), 60)])
}

// same says whether two trees are the same in all that they hold.
func same(a, b api.Value) bool {
	return a.Kind == b.Kind && a.Num == b.Num && a.Text == b.Text && slices.EqualFunc(a.List, b.List, same) &&
		slices.EqualFunc(a.Fields, b.Fields, func(x, y api.Entry) bool { return x.Number == y.Number && same(x.Value, y.Value) })
}

// sameSkips says whether two lists tell the same records.
func sameSkips(a, b []api.Skip) bool {
	return slices.EqualFunc(a, b, func(x, y api.Skip) bool {
		return x.At == y.At && x.Number == y.Number && x.Kind == y.Kind && slices.Equal(x.Trail, y.Trail)
	})
}

// skip is a record that was passed over.
func skip(at, number, kind int, trail ...int) api.Skip {
	return api.Skip{At: at, Number: number, Kind: kind, Trail: trail}
}

// answer is what the three calls that read bytes answer.
type answer struct {
	tree       api.Value
	at         int
	err        api.Errno
	bytes      []byte
	bytesAt    int
	bytesErr   api.Errno
	skips      []api.Skip
	skippedAt  int
	skippedErr api.Errno
}

// ask asks all three.
func ask(s *bind.Schema, name string, b []byte) answer {
	var a answer
	a.tree, a.at, a.err = loose.Decode(s, name, b)
	a.bytes, a.bytesAt, a.bytesErr = loose.Canonical(s, name, b)
	a.skips, a.skippedAt, a.skippedErr = loose.Skipped(s, name, b)
	return a
}

// reads looks whether bytes are read as a tree, with these records passed over; and whether all that is promised of such bytes holds.
func reads(t *testing.T, s *bind.Schema, name string, b []byte, want api.Value, skips ...api.Skip) {
	t.Helper()
	a := ask(s, name, b)
	if a.err != api.OK || a.at != 0 || !same(a.tree, want) {
		t.Errorf("P1101: Decode(%q, %s) = %s, %d, %v, want %s", name, some(b), short(a.tree), a.at, a.err, short(want))
		return
	}
	if a.skippedErr != api.OK || a.skippedAt != 0 || !sameSkips(a.skips, skips) {
		t.Errorf("P1107: Skipped(%q, %s) = %v, %d, %v, want %v", name, some(b), a.skips, a.skippedAt, a.skippedErr, skips)
	}
	if place, e := tree.Normal(s, name, a.tree); e != api.OK {
		t.Errorf("P1109: %s is read as %s, which is %v at %v", some(b), short(a.tree), e, place)
	}
	canon, e := encode.New(s).Encode(name, want)
	if e != api.OK || a.bytesErr != api.OK || a.bytesAt != 0 || !bytes.Equal(a.bytes, canon) {
		t.Errorf("P1106: Canonical(%q, %s) = %s, %d, %v, want %s, %v", name, some(b), some(a.bytes), a.bytesAt, a.bytesErr, some(canon), e)
	}
}

// refuses looks whether all three calls refuse bytes, at one place, with nothing beside the error.
func refuses(t *testing.T, s *bind.Schema, name string, b []byte, place int, want api.Errno) {
	t.Helper()
	a := ask(s, name, b)
	if a.err != want || a.at != place {
		t.Errorf("P1101: Decode(%.40q, %s) answers %v at %d, want %v at %d", name, some(b), a.err, a.at, want, place)
	}
	if a.bytesErr != want || a.bytesAt != place {
		t.Errorf("P1106: Canonical(%.40q, %s) answers %v at %d, want %v at %d", name, some(b), a.bytesErr, a.bytesAt, want, place)
	}
	if a.skippedErr != want || a.skippedAt != place {
		t.Errorf("P1107: Skipped(%.40q, %s) answers %v at %d, want %v at %d", name, some(b), a.skippedErr, a.skippedAt, want, place)
	}
	if !same(a.tree, api.Value{}) || len(a.bytes) > 0 || len(a.skips) > 0 {
		t.Errorf("P4: of %.40q, %s: %s, %s, %v beside an error", name, some(b), short(a.tree), some(a.bytes), a.skips)
	}
}

// tooLarge looks whether bytes are refused since the tree has too many canonical bytes, and whether Skipped does not mind.
func tooLarge(t *testing.T, s *bind.Schema, name string, b []byte) {
	t.Helper()
	a := ask(s, name, b)
	if a.err != api.ErrSize || a.at != 0 || !same(a.tree, api.Value{}) {
		t.Errorf("P1101: Decode(%s) = %s, %d, %v, want ErrSize", some(b), short(a.tree), a.at, a.err)
	}
	if a.bytesErr != api.ErrSize || a.bytesAt != 0 || len(a.bytes) > 0 {
		t.Errorf("P1106: Canonical(%s) = %s, %d, %v, want ErrSize", some(b), some(a.bytes), a.bytesAt, a.bytesErr)
	}
	if a.skippedErr != api.OK || a.skippedAt != 0 {
		t.Errorf("P1107: Skipped(%s) answers %d, %v", some(b), a.skippedAt, a.skippedErr)
	}
}

// decoded is what Decode answers.
func decoded(s *bind.Schema, name string, b []byte) (api.Value, int, api.Errno) {
	return loose.Decode(s, name, b)
}
