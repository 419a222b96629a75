package encode_test

import (
	"bytes"
	"fmt"
	"strings"
	"testing"

	"sigil/api"
	"sigil/encode"
	"sigil/tree"
	"sigil/wire"
)

// reading reads bytes as P907 says that they are.
type reading struct {
	*testing.T
	e *encode.Encoder
}

// message looks whether bytes are the records of a message's fields.
func (r reading) message(name string, v api.Value, b []byte) {
	r.Helper()
	l, _, x := wire.Split(b, true)
	if x != api.OK {
		r.Fatalf("P907: Split answers %v of %s", x, some(b))
	}
	for i := range l {
		if i > 0 && l[i].Number < l[i-1].Number {
			r.Fatalf("P907: the numbers of %s fall", some(b))
		}
	}
	take := func(number int) api.Record {
		r.Helper()
		if len(l) == 0 || l[0].Number != number {
			r.Fatalf("P907: a record of %d is not there: %s", number, short(v))
		}
		first := l[0]
		l = l[1:]
		return first
	}
	for _, entry := range v.Fields {
		f, _ := wideSchema().Field(name, entry.Number)
		switch {
		case f.Card == api.CMap:
			for _, p := range entry.Value.List {
				r.pair(f, p, take(f.Number))
			}
		case f.Card == api.CRepeated && kindOf(f.Type) == api.WText:
			for _, in := range entry.Value.List {
				r.value(f.Type, f.Of, in, take(f.Number))
			}
		case f.Card == api.CRepeated:
			r.block(f.Type, entry.Value.List, take(f.Number))
		default:
			r.value(f.Type, f.Of, entry.Value, take(f.Number))
		}
	}
	if len(l) > 0 {
		r.Fatalf("P907: %s has records of no field: %v", short(v), l)
	}
}

// pair looks whether a record is that of a pair: two records, the key's and the value's.
func (r reading) pair(f api.Field, p api.Value, in api.Record) {
	r.Helper()
	l, _, x := wire.Split([]byte(in.Text), true)
	if in.Kind != api.WText || x != api.OK || len(l) != 2 || l[0].Number != 1 || l[1].Number != 2 {
		r.Fatalf("P907: a pair is %v, %v, %v", in, l, x)
	}
	r.value(f.Key, "", p.List[0], l[0])
	r.value(f.Type, f.Of, p.List[1], l[1])
}

// value looks whether a record is that of a value.
func (r reading) value(typ int, of string, v api.Value, in api.Record) {
	r.Helper()
	if in.Kind != kindOf(typ) {
		r.Fatalf("P907: the record %v is none of type %d", in, typ)
	}
	switch typ {
	case api.TMessage:
		b, x := r.e.Encode(of, v)
		if x != api.OK || !bytes.Equal(b, []byte(in.Text)) {
			r.Fatalf("P907: the text of a message is %q, Encode answers %q, %v", in.Text, b, x)
		}
		r.message(of, v, b)
	case api.TString, api.TBytes:
		if in.Text != v.Text {
			r.Fatalf("P907: a text is %q, want %q", in.Text, v.Text)
		}
	default:
		if n := meaning(typ, in.Num); n != v.Num {
			r.Fatalf("P907: a number is %d, want %d", n, v.Num)
		}
	}
}

// meaning is the number that a record of a type means.
func meaning(typ, n int) int {
	switch typ {
	case api.TSint32, api.TSint64:
		return wire.Zag(n)
	case api.TSfixed32:
		return int(int32(n))
	}
	return n
}

// block looks whether a record is that of a list of numbers, one behind the other.
func (r reading) block(typ int, l []api.Value, in api.Record) {
	r.Helper()
	from, x := wire.Read([]byte(in.Text), true)
	for _, v := range l {
		n := 0
		switch kindOf(typ) {
		case api.WVarint:
			n, x = from.Varint()
		case api.WFixed32:
			n, x = from.Fixed(4)
		default:
			n, x = from.Fixed(8)
		}
		if x != api.OK || meaning(typ, n) != v.Num {
			r.Fatalf("P907: in a block of type %d stands %d, %v, want %d", typ, n, x, v.Num)
		}
	}
	if in.Kind != api.WText || from.More() {
		r.Fatalf("P907: a block of type %d has more than its numbers: %v", typ, in)
	}
}

func TestRecords(t *testing.T) { // P907: the bytes as records, of made trees
	s := wideSchema()
	r := reading{t, encode.New(s)}
	for seed := range int64(1500) {
		for _, name := range s.Messages() {
			v := newMaker(seed).normal(name)
			b, x := r.e.Encode(name, v)
			if x != api.OK {
				t.Fatalf("P906: Encode answers %v of %s", x, short(v))
			}
			r.message(name, v, b)
		}
	}
}

func TestRecordsOfLargeTrees(t *testing.T) { // P907: records of many bytes, and many records
	s := wideSchema()
	r := reading{t, encode.New(s)}
	numbers, texts, messages, pairs := list(), list(), list(), dict()
	for i := range 20000 {
		numbers.List = append(numbers.List, num(i*i))
	}
	for i := range 1000 {
		texts.List = append(texts.List, text(strings.Repeat("t", i%300)))
		messages.List = append(messages.List, one(api.TString, text(strings.Repeat("m", 1+i%200))))
		pairs.List = append(pairs.List, kv(fmt.Sprintf("%05d", i), num(-i)))
	}
	v := msg(at(repeated+api.TInt32, numbers), at(repeated+api.TSint64, numbers), at(repeated+api.TFixed32, numbers), at(repeated+api.TBytes, texts), at(repeated+api.TMessage, messages), at(mapped+api.TInt64, pairs))
	v = chain(3, api.TMessage, v)
	b, x := r.e.Encode("w.W", v)
	if x != api.OK || !bytes.Equal(b, secondBytes("w.W", v)) {
		t.Fatalf("P903: Encode answers %s, %v", some(b), x)
	}
	r.message("w.W", v, b)
}

func TestJustWhereNormal(t *testing.T) { // P906: Encode answers OK just where tree.Normal does and the size is not above MaxMessage
	s := wideSchema()
	e := encode.New(s)
	for seed := range int64(1000) {
		for _, name := range s.Messages() {
			for _, v := range made(seed, name) {
				b, x := e.Encode(name, v)
				_, normal := tree.Normal(s, name, v)
				n, _, y := tree.Size(s, name, v)
				if (x == api.OK) != (normal == api.OK) || x != y || len(b) != n {
					t.Fatalf("P906: of %s: Encode answers %v and %d bytes, Normal %v, Size %d, %v", short(v), x, len(b), normal, n, y)
				}
			}
		}
	}
	for k, want := range map[int]api.Errno{api.MaxMessage - 4: api.OK, api.MaxMessage - 3: api.ErrSize, api.MaxMessage: api.ErrSize, 2 * api.MaxMessage: api.ErrSize} {
		v := one(api.TBytes, text(strings.Repeat("x", k)))
		if _, x := tree.Normal(s, "w.W", v); x != api.OK {
			t.Errorf("P906: Normal answers %v", x)
		}
		if b, x := e.Encode("w.W", v); x != want || x == api.OK && len(b) != k+4 {
			t.Errorf("P906: Encode of %d bytes answers %d, %v, want %v", k+4, len(b), x, want)
		}
	}
}

// plain tells all of a tree, unlike ones unlike.
func plain(v api.Value) string {
	var b strings.Builder
	fmt.Fprintf(&b, "%d %d %q [", v.Kind, v.Num, v.Text)
	for _, in := range v.List {
		b.WriteString(plain(in) + ",")
	}
	b.WriteString("] {")
	for _, in := range v.Fields {
		fmt.Fprint(&b, in.Number, ":", plain(in.Value), ",")
	}
	return b.String() + "}"
}

// apart notes trees by their bytes.
type apart map[string]string

func (a apart) note(t *testing.T, b []byte, v api.Value) {
	t.Helper()
	told := plain(v)
	if other, ok := a[string(b)]; ok && other != told {
		t.Fatalf("P908: %s and %s have the same bytes % x", other, told, b)
	}
	a[string(b)] = told
}

func TestUnlikeTrees(t *testing.T) { // P908: unlike normal trees of one type have unlike bytes: all of many small ones
	e := encode.New(load(t, small))
	choices := [][]api.Value{ // of each field what it may hold
		{num(1), num(-1), num(128)},
		{text("a"), text("\x08\x01"), text("ab")},
		{list(num(0)), list(num(1)), list(num(0), num(0)), list(num(-1), num(0)), list(num(64))},
		{dict(kv("", msg())), dict(kv("", one(1, num(1)))), dict(kv("a", msg())), dict(kv("", msg()), kv("a", msg())), dict(kv("a", one(5, num(0))))},
		{num(0), num(1)},
		{num(0), num(1), num(1 << 31)},
		{msg(), one(1, num(1)), one(2, text("a")), one(7, msg()), one(7, one(7, msg())), one(6, num(0))},
	}
	seen := apart{}
	n := 0
	var grow func(v api.Value, number int)
	grow = func(v api.Value, number int) {
		if number > len(choices) {
			b, x := e.Encode("p.M", v)
			if x != api.OK {
				t.Fatalf("P906: Encode answers %v of %s", x, short(v))
			}
			seen.note(t, b, v)
			n++
			return
		}
		grow(v, number+1)
		if number == 7 && len(v.Fields) > 0 && v.Fields[len(v.Fields)-1].Number == 6 {
			return // of the same oneof
		}
		for _, in := range choices[number-1] {
			grow(msg(append(v.Fields[:len(v.Fields):len(v.Fields)], at(number, in))...), number+1)
		}
	}
	grow(msg(), 1)
	if len(seen) != n || n != 4*4*6*6*3*(1+3+6) {
		t.Errorf("P908: %d trees have %d rows of bytes", n, len(seen))
	}
}

func TestUnlikeMadeTrees(t *testing.T) { // P908: made trees, and such that are unlike in one thing
	s := wideSchema()
	e := encode.New(s)
	for _, name := range s.Messages() {
		seen := apart{}
		for seed := range int64(1500) {
			m := newMaker(seed)
			v := m.normal(name)
			for range 8 {
				b, x := e.Encode(name, v)
				if x != api.OK {
					t.Fatalf("P906: Encode answers %v of %s", x, short(v))
				}
				seen.note(t, b, v)
				if near, _, x := tree.Normalise(s, name, m.broken(v)); x == api.OK {
					v = near
				}
			}
		}
		if len(seen) < 500 {
			t.Errorf("P908: only %d rows of bytes", len(seen))
		}
	}
}
