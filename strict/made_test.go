package strict_test

import (
	"bytes"
	"math"
	"math/rand"
	"slices"
	"testing"

	"sigil/api"
	"sigil/bind"
	"sigil/encode"
	"sigil/strict"
	"sigil/tree"
)

// maker makes typed trees of the wide schema, and bytes of them that are broken here and there.
type maker struct {
	*rand.Rand
	rare int // one of so many things that are written is broken; 0: none is
}

func newMaker(seed int64) *maker { return &maker{Rand: rand.New(rand.NewSource(seed))} }

// message makes a message in which others lie so many levels deep.
func (m *maker) message(name string, levels int) api.Value {
	info, _ := wideSchema().Message(name)
	v := msg()
	for range m.Intn(6) {
		f := info.Fields[m.Intn(len(info.Fields))]
		if f.Type == api.TMessage && levels <= 1 {
			continue
		}
		v.Fields = append(v.Fields, at(f.Number, m.field(f, levels)))
	}
	return v
}

// field makes a value that fits a field.
func (m *maker) field(f api.Field, levels int) api.Value {
	switch f.Card {
	case api.CRepeated:
		l := list()
		for range m.Intn(4) {
			l.List = append(l.List, m.value(f.Type, f.Of, levels))
		}
		return l
	case api.CMap:
		l := dict()
		for range m.Intn(5) {
			l.List = append(l.List, pair(m.value(f.Key, "", levels), m.value(f.Type, f.Of, levels)))
		}
		return l
	}
	return m.value(f.Type, f.Of, levels)
}

// value makes a value of a type.
func (m *maker) value(typ int, of string, levels int) api.Value {
	switch typ {
	case api.TMessage:
		return m.message(of, levels-1)
	case api.TString:
		return text([]string{"", "", "a", "b", "a\x00", "é", "\U0010ffff"}[m.Intn(7)])
	case api.TBytes:
		return text([]string{"", "", "a", "\xff", "\x00"}[m.Intn(5)])
	case api.TBool:
		return num(m.Intn(2))
	case api.TInt32, api.TSint32, api.TSfixed32, api.TEnum:
		return num([]int{0, 0, 1, -1, 64, -65, math.MinInt32, math.MaxInt32, 300}[m.Intn(9)])
	case api.TUint32, api.TFixed32, api.TFloat:
		return num([]int{0, 0, 1, 128, math.MaxUint32, 1 << 31}[m.Intn(6)])
	}
	return num([]int{0, 0, 1, -1, math.MinInt, math.MaxInt, 1 << 40, -1 << 62}[m.Intn(8)])
}

// normal makes a normal tree of a type.
func (m *maker) normal(name string) api.Value {
	v, _, e := tree.Normalise(wideSchema(), name, m.message(name, 1+m.Intn(5)))
	if e != api.OK {
		panic(e)
	}
	return v
}

// breaks says whether the next thing is to be broken.
func (m *maker) breaks() bool { return m.rare > 0 && m.Intn(m.rare) == 0 }

// written is a tree as bytes, broken here and there; the lengths around it are mostly right.
func (m *maker) written(name string, v api.Value) []byte {
	var l [][]byte
	for _, entry := range m.more(name, v.Fields) {
		f, _ := wideSchema().Field(name, entry.Number)
		l = append(l, m.records(f, entry.Value)...)
	}
	if len(l) > 0 && m.breaks() {
		i, j := m.Intn(len(l)), m.Intn(len(l))
		l[i], l[j] = l[j], l[i]
	}
	if len(l) > 0 && m.breaks() {
		l = slices.Insert(l, m.Intn(len(l)+1), l[m.Intn(len(l))])
	}
	return m.cut(rows(l...))
}

// more are the fields of a message, perhaps with others more: members of a oneof, or any.
func (m *maker) more(name string, l []api.Entry) []api.Entry {
	if !m.breaks() {
		return l
	}
	info, _ := wideSchema().Message(name)
	fields := slices.DeleteFunc(info.Fields, func(f api.Field) bool { return f.Type == api.TMessage })
	if members := slices.DeleteFunc(slices.Clone(fields), func(f api.Field) bool { return f.Oneof == 0 }); len(members) > 0 && m.Intn(2) == 0 {
		fields = members
		l = m.put(l, fields[m.Intn(len(fields))])
	}
	return m.put(l, fields[m.Intn(len(fields))])
}

// put adds a field, mostly in its place.
func (m *maker) put(l []api.Entry, f api.Field) []api.Entry {
	i := m.Intn(len(l) + 1)
	if m.Intn(4) > 0 {
		i = len(l) - len(slices.DeleteFunc(slices.Clone(l), func(e api.Entry) bool { return e.Number <= f.Number }))
	}
	return slices.Insert(slices.Clone(l), i, at(f.Number, m.field(f, 1)))
}

// records are the records of a field.
func (m *maker) records(f api.Field, v api.Value) [][]byte {
	var l [][]byte
	switch {
	case f.Card == api.CMap:
		for _, p := range v.List {
			l = append(l, m.record(f.Number, m.pair(m.value1(1, f.Key, "", p.List[0]), m.value1(2, f.Type, f.Of, p.List[1]))))
		}
		if len(l) > 1 && m.breaks() {
			slices.Reverse(l)
		}
	case f.Card == api.CRepeated && kindOf(f.Type) == 2:
		for _, in := range v.List {
			l = append(l, m.value1(f.Number, f.Type, f.Of, in))
		}
	case f.Card == api.CRepeated:
		var block []byte
		for _, in := range v.List {
			block = append(block, m.number(f.Type, in.Num)...)
		}
		if m.breaks() {
			block = nil
		}
		l = append(l, m.record(f.Number, m.cut(block)))
	default:
		l = append(l, m.value1(f.Number, f.Type, f.Of, v))
	}
	return l
}

// pair is the inner part of a pair.
func (m *maker) pair(key, value []byte) []byte {
	if !m.breaks() {
		return m.cut(rows(key, value))
	}
	return [][]byte{nil, key, value, rows(value, key), rows(key, key, value), rows(key, value, value), rows(key, value, row("00")), rows(key, value, row("18 01"))}[m.Intn(8)]
}

// value1 is one record of a value.
func (m *maker) value1(number, typ int, of string, v api.Value) []byte {
	switch typ {
	case api.TString, api.TBytes:
		x := []byte(v.Text)
		if m.breaks() {
			x = append(x, []string{"\xff", "\xc3", "é\x80", "\xed\xa0\x80"}[m.Intn(4)]...)
		}
		if m.breaks() {
			x = nil
		}
		return m.record(number, x)
	case api.TMessage:
		return m.record(number, m.written(of, v))
	}
	if m.breaks() {
		v.Num = 0
	}
	return rows(m.tag(number, kindOf(typ)), m.number(typ, v.Num))
}

// record is a record of kind 2, its length perhaps off by one.
func (m *maker) record(number int, b []byte) []byte {
	n := len(b)
	if m.breaks() {
		n += 1 - 2*m.Intn(2)
	}
	return rows(m.tag(number, 2), m.varint(uint64(max(n, 0))), b)
}

// tag is a tag, perhaps another one.
func (m *maker) tag(number, kind int) []byte {
	if m.breaks() {
		number = []int{0, 18, 19, number - 1, number + 1, 1 << 29, 1<<29 - 1, 1 << 33, number + 1<<29}[m.Intn(9)]
	}
	if m.breaks() {
		kind = m.Intn(8)
	}
	return m.varint(uint64(number*8 + kind))
}

// number is a number without a tag, perhaps one that the type has not.
func (m *maker) number(typ, n int) []byte {
	u := uint64(n)
	switch kindOf(typ) {
	case 5:
		return m.cut([]byte{byte(n), byte(n >> 8), byte(n >> 16), byte(n >> 24)})
	case 1:
		return m.cut([]byte{byte(n), byte(n >> 8), byte(n >> 16), byte(n >> 24), byte(n >> 32), byte(n >> 40), byte(n >> 48), byte(n >> 56)})
	}
	if typ == api.TSint32 || typ == api.TSint64 {
		u = uint64(n<<1 ^ n>>63)
	}
	if m.breaks() {
		u = []uint64{2, 1 << 31, 1 << 32, 1<<64 - 1<<31 - 1, 1<<64 - 1<<31, 1 << 63, 1<<64 - 1, u + 1<<32}[m.Intn(8)]
	}
	return m.varint(u)
}

// varint is a varint, perhaps one that is longer, over, or without its end.
func (m *maker) varint(u uint64) []byte {
	b := varint(int(u))
	if !m.breaks() {
		return b
	}
	switch m.Intn(3) {
	case 0:
		b[len(b)-1] |= 0x80
		return append(b, 0)
	case 1:
		return append(bytes.Repeat(row("81"), 9), []byte{0, 2, 0x7f, 0x80}[m.Intn(4)])
	}
	b[len(b)-1] |= 0x80
	return b
}

// cut is bytes, perhaps without some at the end.
func (m *maker) cut(b []byte) []byte {
	if len(b) > 0 && m.breaks() {
		return b[:m.Intn(len(b))]
	}
	return b
}

// mangled is bytes of which one or two are changed, put in, or taken out.
func (m *maker) mangled(b []byte) []byte {
	b = slices.Clone(b)
	for range 1 + m.Intn(2) {
		i := m.Intn(len(b) + 1)
		c := []byte{0, 1, 2, 8, 0x0a, 0x10, 0x12, 0x7f, 0x80, 0xff, byte(m.Intn(256))}[m.Intn(11)]
		switch {
		case m.Intn(4) == 0 || i == len(b):
			b = slices.Insert(b, i, c)
		case m.Intn(3) == 0:
			b = slices.Delete(b, i, i+1)
		case m.Intn(2) == 0:
			b[i] ^= 1 << m.Intn(8)
		default:
			b[i] = c
		}
	}
	return b
}

// judged looks whether both calls answer what a second reading says of bytes, whatever stands behind a fault; it tells that error.
func judged(t *testing.T, s *bind.Schema, name string, b []byte) api.Errno {
	t.Helper()
	want, bad := secondly(s, name, b)
	if bad.err == api.OK {
		reads(t, s, name, b, want)
		return api.OK
	}
	answers(t, s, name, b, bad.at, bad.err)
	for i := bad.end; i < len(b); i++ {
		b[i] ^= 0x55
	}
	if bad.end < len(b) {
		answers(t, s, name, b, bad.at, bad.err)
	}
	return bad.err
}

// allErrors are the errors that a row of bytes may have.
var allErrors = []api.Errno{api.ErrEnds, api.ErrOver, api.ErrLonger, api.ErrNumber, api.ErrKind, api.ErrStranger, api.ErrWire, api.ErrOrder, api.ErrBoth, api.ErrDepth, api.ErrForm, api.ErrUtf8, api.ErrZero, api.ErrEmpty, api.ErrPair, api.ErrKeys}

func TestMade(t *testing.T) { // P1002 to P1006, P1008: what a second reading of the document says of made rows of bytes, right ones and broken ones
	s := wideSchema()
	seen := map[api.Errno]int{}
	for seed := range int64(6000) {
		for _, name := range s.Messages() {
			m := newMaker(seed)
			v := m.normal(name)
			m.rare = []int{0, 5, 20, 60}[m.Intn(4)]
			b := m.written(name, v)
			if name == "w.W" {
				for range []int{0, 0, 59, 60, 61, 62, 63}[m.Intn(7)] {
					b = record(api.TMessage, b)
				}
			}
			seen[judged(t, s, name, b)]++
		}
	}
	for _, e := range append(allErrors, api.OK) {
		if seen[e] < 20 {
			t.Errorf("%d of the made rows are %v: too few", seen[e], e)
		}
	}
}

func TestMangled(t *testing.T) { // P1002 to P1006, P1008: canonical bytes of which some are changed, put in, taken out, cut off
	s := wideSchema()
	seen := map[api.Errno]int{}
	for seed := range int64(1500) {
		for _, name := range s.Messages() {
			m := newMaker(seed)
			b := m.written(name, m.normal(name))
			for range 3 {
				seen[judged(t, s, name, m.mangled(b))]++
			}
			seen[judged(t, s, name, slices.Clone(b[:m.Intn(len(b)+1)]))]++
		}
	}
	if seen[api.OK] < 200 || len(seen) < 12 {
		t.Errorf("the mangled rows have too few errors: %v", seen)
	}
}

func TestThereAndBack(t *testing.T) { // P1007: Decode of what Encode answers is the tree
	s := wideSchema()
	for _, name := range s.Messages() {
		e := encode.New(s)
		for seed := range int64(2000) {
			v := newMaker(seed).normal(name)
			b, x := e.Encode(name, v)
			if x != api.OK {
				t.Fatalf("Encode(%s): %v", short(v), x)
			}
			reads(t, s, name, b, v)
			if m := newMaker(seed); !bytes.Equal(m.written(name, m.normal(name)), b) {
				t.Fatalf("the made bytes of %s are not the canonical ones", short(v))
			}
			if _, x := tree.Normal(s, name, v); x != api.OK {
				t.Fatalf("P1007: what is read is not normal: %s", short(v))
			}
		}
	}
}

func TestEveryPrefix(t *testing.T) { // P1001: of canonical bytes every prefix: a fault at its end, or a tree whose bytes it is
	s := wideSchema()
	for seed := range int64(150) {
		for _, name := range s.Messages() {
			m := newMaker(seed)
			b := m.written(name, m.normal(name))
			for i := range b {
				want, bad := secondly(s, name, b[:i])
				if bad.err == api.OK {
					reads(t, s, name, b[:i], want)
					continue
				}
				if bad.err != api.ErrEnds {
					t.Fatalf("a second reading of a prefix answers %v", bad.err)
				}
				answers(t, s, name, b[:i], bad.at, api.ErrEnds)
			}
		}
	}
}

// tried are rows of bytes by the trees that they are read as.
type tried map[string]string

func TestAllSmallRows(t *testing.T) { // P1007: all rows of few bytes: just those are read that are the bytes of a tree, and no two give one tree
	s := smallSchema()
	e := encode.New(s)
	seen := tried{}
	try := func(b []byte) {
		v, place, x := strict.Decode(s, "p.M", b)
		want, bad := secondly(s, "p.M", b)
		if x != bad.err || place != bad.at || !same(v, want) {
			t.Fatalf("P1001: Decode(% x) = %s, %d, %v, want %s, %d, %v", b, short(v), place, x, short(want), bad.at, bad.err)
		}
		if q, y := strict.Check(s, "p.M", b); q != place || y != x {
			t.Fatalf("P1008: Check(% x) = %d, %v, Decode answers %d, %v", b, q, y, place, x)
		}
		if x != api.OK {
			return
		}
		again, y := e.Encode("p.M", v)
		if y != api.OK || !bytes.Equal(again, b) {
			t.Fatalf("P1007: % x is read as %s, whose bytes are % x, %v", b, short(v), again, y)
		}
		told := plain(v)
		if other, ok := seen[told]; ok {
			t.Fatalf("P1007: % x and % x are read as one tree", other, b)
		}
		seen[told] = string(b)
	}
	for i := range 1 << 16 {
		try([]byte{byte(i), byte(i >> 8)})
		if i < 256 {
			try([]byte{byte(i)})
		}
	}
	try(nil)
	letters := row("00 01 02 04 05 08 0a 12 1a 22 28 3a 61 80 ff")
	for length := 3; length <= 4; length++ {
		all := 1
		for range length {
			all *= len(letters)
		}
		for i := range all {
			b := make([]byte, length)
			for k := range b {
				b[k] = letters[i%len(letters)]
				i /= len(letters)
			}
			try(b)
		}
	}
	if len(seen) < 200 {
		t.Errorf("%d rows are read: too few", len(seen))
	}
}
