package stream_test

import (
	"bytes"
	"encoding/binary"
	"fmt"
	"slices"
	"strings"
	"testing"

	"sigil/api"
	"sigil/stream"
)

// one is the source of the chapter's examples, small that of the document's, plain one with a text of each kind.
const (
	one   = `syntax = "proto3"; message M { int32 a = 1; }`
	small = `syntax = "proto3"; package p; message M { int32 a = 1; string b = 2; repeated sint32 c = 3; map<string, M> d = 4; optional bool e = 5; oneof o { fixed32 f = 6; M g = 7; } }`
	plain = `syntax = "proto3"; message M { bytes b = 1; M m = 2; repeated bool l = 3; string s = 4; } enum E { Z = 0; }`
)

// headFor is a Head of one source.
func headFor(text, typ string, per int) api.Head {
	return api.Head{Sources: []api.Source{{Name: "f", Text: text}}, Type: typ, Per: per}
}

func num(v int) api.Value             { return api.Value{Kind: api.VNum, Num: v} }
func text(v string) api.Value         { return api.Value{Kind: api.VText, Text: v} }
func msg(l ...api.Entry) api.Value    { return api.Value{Kind: api.VMessage, Fields: l} }
func at(i int, v api.Value) api.Entry { return api.Entry{Number: i, Value: v} }
func list(l ...api.Value) api.Value   { return api.Value{Kind: api.VList, List: l} }
func dict(l ...api.Value) api.Value   { return api.Value{Kind: api.VMap, List: l} }
func pair(l ...api.Value) api.Value   { return api.Value{Kind: api.VPair, List: l} }

// a is the message whose field 1 is that number.
func a(v int) api.Value {
	if v == 0 {
		return msg()
	}
	return msg(at(1, num(v)))
}

// as are the messages of the numbers from one up to another.
func as(from, to int) []api.Value {
	var l []api.Value
	for i := from; i < to; i++ {
		l = append(l, a(i))
	}
	return l
}

// holds is the message whose field 1 is a text.
func holds(s string) api.Value { return msg(at(1, text(s))) }

// textSize is how many canonical bytes the message of plain has whose field 1 is a text of so many bytes.
func textSize(n int) int { return 1 + len(binary.AppendUvarint(nil, uint64(n))) + n }

// filled is the message of plain that has so many canonical bytes: at least five.
func filled(size int) api.Value {
	for n := size - 5; n < size; n++ {
		if textSize(n) == size {
			return holds(strings.Repeat("x", n))
		}
	}
	// There is no such text, as one with a byte more has a longer length too: a message of two bytes takes the place.
	v := filled(size - 2)
	v.Fields = append(v.Fields, at(2, msg()))
	return v
}

// numbered is the record of the message of that number.
func numbered(v int) []byte {
	if v == 0 {
		return record(nil)
	}
	return record(binary.AppendUvarint([]byte{8}, uint64(v)))
}

// same says whether two trees are the same in all that they hold.
func same(x, y api.Value) bool {
	return x.Kind == y.Kind && x.Num == y.Num && x.Text == y.Text && slices.EqualFunc(x.List, y.List, same) &&
		slices.EqualFunc(x.Fields, y.Fields, func(x, y api.Entry) bool { return x.Number == y.Number && same(x.Value, y.Value) })
}

// sameAll says whether two lists of trees are the same.
func sameAll(x, y []api.Value) bool { return slices.EqualFunc(x, y, same) }

// sameHead says whether two Heads are the same.
func sameHead(x, y api.Head) bool {
	return slices.Equal(x.Sources, y.Sources) && x.Type == y.Type && x.Per == y.Per
}

// some tells the beginning of what may be long.
func some[T any](l []T) string {
	s := fmt.Sprintf("%+v", l[:min(8, len(l))])
	return fmt.Sprintf("%d: %.300s", len(l), s)
}

// packed is a stream that Pack makes, which is looked at by the second reading.
func packed(t testing.TB, h api.Head, l ...api.Value) []byte {
	t.Helper()
	b, place, e := stream.Pack(h, l)
	if want := secondPack(h, l); e != api.OK || place != 0 || !bytes.Equal(b, want) {
		t.Fatalf("P1701: Pack(%.200v, %s) = %d bytes, %d, %v, want %d bytes", h, some(l), len(b), place, e, len(want))
	}
	return b
}

// packRefuses looks at the error of Pack, and its place.
func packRefuses(t *testing.T, h api.Head, l []api.Value, place int, want api.Errno) {
	t.Helper()
	if b, k, e := stream.Pack(h, l); e != want || k != place || len(b) > 0 {
		t.Errorf("P1701: Pack(%.200v, %s) = %d bytes, %d, %v, want %d, %v", h, some(l), len(b), k, e, place, want)
	}
}

// looks looks at what Look tells.
func looks(t *testing.T, b []byte, h api.Head, size int) {
	t.Helper()
	if got, k, e := stream.Look(b); e != api.OK || k != size || !sameHead(got, h) {
		t.Errorf("P1703: Look of %d bytes = %.200v, %d, %v, want %.200v, %d", len(b), got, k, e, h, size)
	}
}

// headRefuses looks at the error of Look, which all other calls that read have too.
func headRefuses(t *testing.T, b []byte, want api.Errno) {
	t.Helper()
	if h, k, e := stream.Look(b); e != want || k != 0 || !sameHead(h, api.Head{}) {
		t.Errorf("P1703: Look of %d bytes = %.200v, %d, %v, want %v", len(b), h, k, e, want)
	}
	if l, hurts, e := stream.Read(b); e != want || len(l)+len(hurts) > 0 {
		t.Errorf("P1704: Read of %d bytes = %s, %v, %v, want %v", len(b), some(l), hurts, e, want)
	}
	if all, e := stream.Each(b); e != want || all != nil {
		t.Errorf("P1705: Each of %d bytes: %v, want %v", len(b), e, want)
	}
	// What else may be wrong is told behind that.
	for _, l := range [][]api.Value{nil, {{}}, make([]api.Value, api.MaxRecords+1)} {
		if out, place, e := stream.Append(b, l); e != want || place != 0 || len(out) > 0 {
			t.Errorf("P1702: Append to %d bytes = %d bytes, %d, %v, want %v", len(b), len(out), place, e, want)
		}
	}
	if out, hurts, e := stream.Mend(b); e != want || len(out)+len(hurts) > 0 {
		t.Errorf("P1706: Mend of %d bytes = %d bytes, %v, %v, want %v", len(b), len(out), hurts, e, want)
	}
}

// reads looks at what Read and Each tell.
func reads(t testing.TB, b []byte, l []api.Value, hurts ...api.Hurt) {
	t.Helper()
	got, h, e := stream.Read(b)
	if e != api.OK || !sameAll(got, l) || !slices.Equal(h, hurts) {
		t.Fatalf("P1704: Read of %d bytes = %s, %v, %v, want %s, %v", len(b), some(got), h, e, some(l), hurts)
	}
	all, e := stream.Each(b)
	if e != api.OK {
		t.Fatalf("P1705: Each of %d bytes: %v", len(b), e)
	}
	k := 0
	for place, v := range all {
		if place != k || k >= len(l) || !same(v, l[k]) {
			t.Fatalf("P1705: Each of %d bytes tells %d: %.200v", len(b), place, v)
		}
		k++
	}
	if k != len(l) {
		t.Fatalf("P1705: Each of %d bytes tells %d values, want %d", len(b), k, len(l))
	}
}

// follows looks at all that is read of a stream whose head is right, by the second reading, and tells what that reads.
func follows(t testing.TB, h api.Head, b []byte) story {
	t.Helper()
	want := secondRead(h, b)
	reads(t, b, want.values, want.hurts...)
	mends(t, h, b, want)
	return want
}

// mends looks at what Mend answers.
func mends(t testing.TB, h api.Head, b []byte, want story) {
	t.Helper()
	out, hurts, e := stream.Mend(b)
	if e != api.OK || !slices.Equal(hurts, want.hurts) || !bytes.Equal(out, secondPack(h, want.values)) {
		t.Fatalf("P1706: Mend of %d bytes = %d bytes, %v, %v, want %v", len(b), len(out), hurts, e, want.hurts)
	}
}

// appended is what Append makes, which is looked at by the second reading.
func appended(t testing.TB, h api.Head, b []byte, l ...api.Value) []byte {
	t.Helper()
	out, place, e := stream.Append(b, l)
	if want := secondBehind(h, b, secondRead(h, b).next, l); e != api.OK || place != 0 || !bytes.Equal(out, want) {
		t.Fatalf("P1702: Append(%d bytes, %s) = %d bytes, %d, %v, want %d bytes", len(b), some(l), len(out), place, e, len(want))
	}
	return out
}

// appendRefuses looks at the error of Append, and its place.
func appendRefuses(t *testing.T, b []byte, l []api.Value, place int, want api.Errno) {
	t.Helper()
	if out, k, e := stream.Append(b, l); e != want || k != place || len(out) > 0 {
		t.Errorf("P1702: Append(%d bytes, %s) = %d bytes, %d, %v, want %d, %v", len(b), some(l), len(out), k, e, place, want)
	}
}

// turned is bytes with bits of one turned over.
func turned(b []byte, at int, bits byte) []byte {
	b = slices.Clone(b)
	b[at] ^= bits
	return b
}

// join is bytes one behind the other.
func join(l ...[]byte) []byte { return slices.Concat(l...) }

// spoil writes over the lists of a tree, their spare room too.
func spoil(v *api.Value) {
	l, f := v.List[:cap(v.List)], v.Fields[:cap(v.Fields)]
	for i := range l {
		spoil(&l[i])
		l[i] = api.Value{Kind: 9, Num: -7, Text: "spoilt"}
	}
	for i := range f {
		spoil(&f[i].Value)
		f[i] = api.Entry{Number: -9, Value: api.Value{Kind: 9, Num: -7, Text: "spoilt"}}
	}
}
