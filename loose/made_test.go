package loose_test

import (
	"bytes"
	"math"
	"math/rand"
	"slices"
	"testing"

	"sigil/api"
	"sigil/bind"
	"sigil/encode"
	"sigil/tree"
)

// maker makes typed trees of the wide schema, and bytes of its messages as any writer may write them.
type maker struct {
	*rand.Rand
	rare int // one of so many things that are written is broken; 0: none is
}

func newMaker(seed int64) *maker { return &maker{Rand: rand.New(rand.NewSource(seed))} }

// message makes a message in which others lie so many levels deep.
func (m *maker) message(name string, levels int) api.Value {
	info, _ := wideSchema().Message(name)
	v := msg()
	for range m.Intn(8) {
		f := m.pick(info.Fields)
		if f.Type == api.TMessage && levels <= 1 {
			continue
		}
		v.Fields = append(v.Fields, at(f.Number, m.field(f, levels)))
	}
	return v
}

// pick is a field: mostly one of few, so that many are met again.
func (m *maker) pick(l []api.Field) api.Field {
	few := []int{api.TInt32, api.TMessage, repeated + api.TSint32, mapped + api.TMessage, keyed + api.TUint64, member + api.TString, member + api.TMessage, ofU, ofV}
	if i := slices.IndexFunc(l, func(f api.Field) bool { return f.Number == few[m.Intn(len(few))] }); i >= 0 && m.Intn(3) > 0 {
		return l[i]
	}
	return l[m.Intn(len(l))]
}

// field makes a value that fits a field.
func (m *maker) field(f api.Field, levels int) api.Value {
	switch f.Card {
	case api.CRepeated:
		l := list()
		for range m.Intn(4) {
			l.List = append(l.List, m.value(f.Type, f.Of, levels))
		}
		return l
	case api.CMap:
		l := dict()
		for range m.Intn(5) {
			l.List = append(l.List, pair(m.value(f.Key, "", levels), m.value(f.Type, f.Of, levels)))
		}
		return l
	}
	return m.value(f.Type, f.Of, levels)
}

// value makes a value of a type.
func (m *maker) value(typ int, of string, levels int) api.Value {
	switch typ {
	case api.TMessage:
		return m.message(of, levels-1)
	case api.TString:
		return text([]string{"", "", "a", "b", "a\x00", "é", "\U0010ffff"}[m.Intn(7)])
	case api.TBytes:
		return text([]string{"", "", "a", "\xff", "\x00"}[m.Intn(5)])
	case api.TBool:
		return num(m.Intn(2))
	case api.TInt32, api.TSint32, api.TSfixed32, api.TEnum:
		return num([]int{0, 0, 1, -1, 64, -65, math.MinInt32, math.MaxInt32, 300}[m.Intn(9)])
	case api.TUint32, api.TFixed32, api.TFloat:
		return num([]int{0, 0, 1, 128, math.MaxUint32, 1 << 31}[m.Intn(6)])
	}
	return num([]int{0, 0, 1, -1, math.MinInt, math.MaxInt, 1 << 40, -1 << 62}[m.Intn(8)])
}

// normal makes a normal tree of a type.
func (m *maker) normal(name string) api.Value {
	v, _, e := tree.Normalise(wideSchema(), name, m.message(name, 1+m.Intn(5)))
	if e != api.OK {
		panic(e)
	}
	return v
}

// breaks says whether the next thing is to be broken.
func (m *maker) breaks() bool { return m.rare > 0 && m.Intn(m.rare) == 0 }

// written is a message of a type as bytes: records in any order, the same field again, numbers not shortest, others between.
func (m *maker) written(name string, levels int) []byte {
	info, _ := wideSchema().Message(name)
	var b []byte
	for range m.Intn(9) {
		f := m.pick(info.Fields)
		switch {
		case m.Intn(7) == 0:
			b = append(b, m.stranger(2)...)
		case m.Intn(12) == 0:
			b = append(b, m.other(f)...)
		case f.Type != api.TMessage || levels > 1:
			b = append(b, m.known(f, levels)...)
		}
	}
	return m.cut(b)
}

// stranger is a record of a number that no field has, or a group of any number, with records in it.
func (m *maker) stranger(levels int) []byte {
	number := []int{unknown, strange, 1000, 536870910, 1, 2, 17}[m.Intn(7)]
	kind := 3
	if number > 17 {
		kind = []int{0, 1, 2, 3, 5}[m.Intn(5)]
	}
	if kind != 3 || levels == 0 {
		return m.plain(max(number, unknown), []int{0, 1, 2, 5}[m.Intn(4)])
	}
	b := m.tag(number, 3)
	for range m.Intn(4) {
		if m.Intn(2) == 0 {
			b = append(b, m.stranger(levels-1)...)
		} else {
			b = append(b, m.plain(1+m.Intn(20), []int{0, 1, 2, 5}[m.Intn(4)])...)
		}
	}
	if m.breaks() {
		number = []int{strange, 1, 1000}[m.Intn(3)]
	}
	if m.breaks() {
		return b
	}
	return append(b, m.tag(number, 4)...)
}

// other is a record of a field whose wire kind does not go with it.
func (m *maker) other(f api.Field) []byte {
	kinds := slices.DeleteFunc([]int{0, 1, 2, 5}, func(kind int) bool { return goes(f, kind) })
	return m.plain(f.Number, kinds[m.Intn(len(kinds))])
}

// plain is a record of a number and a kind.
func (m *maker) plain(number, kind int) []byte {
	switch kind {
	case 0:
		return rows(m.tag(number, 0), m.varint(m.Uint64()>>m.Intn(64)))
	case 2:
		return m.record(number, [][]byte{nil, row("ff"), row("08 01"), row("80 80"), row("0c")}[m.Intn(5)])
	}
	return rows(m.tag(number, kind), m.cut(make([]byte, map[int]int{1: 8, 5: 4}[kind])))
}

// known is a record that goes with a field.
func (m *maker) known(f api.Field, levels int) []byte {
	switch {
	case f.Card == api.CMap:
		return m.record(f.Number, m.pair(f, levels))
	case packed(f) && m.Intn(2) == 0:
		var block []byte
		for range m.Intn(4) {
			block = append(block, m.number(f.Type)...)
		}
		return m.record(f.Number, m.cut(block))
	}
	return m.single(f.Number, f.Type, f.Of, levels)
}

// pair is the content of a map's pair: key and value, neither, both twice, others between.
func (m *maker) pair(f api.Field, levels int) []byte {
	var b []byte
	for _, number := range [][]int{{}, {1}, {2}, {1, 2}, {1, 2}, {1, 2}, {2, 1}, {1, 1, 2}, {1, 2, 2}, {2, 3, 1}, {4, 1, 2}}[m.Intn(11)] {
		switch {
		case number > 2:
			b = append(b, m.stranger(2)...)
		case m.Intn(15) == 0:
			in, _ := ofPair(f)(number)
			b = append(b, m.other(in)...)
		case number == 1:
			b = append(b, m.single(1, f.Key, "", levels)...)
		default:
			b = append(b, m.single(2, f.Type, f.Of, levels)...)
		}
	}
	return m.cut(b)
}

// single is a record of one value.
func (m *maker) single(number, typ int, of string, levels int) []byte {
	switch typ {
	case api.TString, api.TBytes:
		x := []byte(m.value(typ, "", 1).Text)
		if m.breaks() {
			x = append(x, []string{"\xff", "\xc3", "é\x80", "\xed\xa0\x80"}[m.Intn(4)]...)
		}
		return m.record(number, x)
	case api.TMessage:
		return m.record(number, m.written(of, levels-1))
	}
	return rows(m.tag(number, kindOf(typ)), m.number(typ))
}

// number is a number without a tag, often one whose low bits alone count.
func (m *maker) number(typ int) []byte {
	n := m.value(typ, "", 1).Num
	switch kindOf(typ) {
	case 5:
		return m.cut([]byte{byte(n), byte(n >> 8), byte(n >> 16), byte(n >> 24)})
	case 1:
		return m.cut([]byte{byte(n), byte(n >> 8), byte(n >> 16), byte(n >> 24), byte(n >> 32), byte(n >> 40), byte(n >> 48), byte(n >> 56)})
	}
	u := uint64(n)
	if m.Intn(3) == 0 {
		u = []uint64{2, 1 << 31, 1 << 32, 1<<32 + 1, 1<<32 - 1, 1<<64 - 1<<31 - 1, 1<<64 - 1<<31, 1 << 63, 1<<64 - 1, u + 1<<32, m.Uint64()}[m.Intn(11)]
	}
	return m.varint(u)
}

// record is a record of kind 2, its length perhaps off by one.
func (m *maker) record(number int, b []byte) []byte {
	n := len(b)
	if m.breaks() {
		n += 1 - 2*m.Intn(2)
	}
	return rows(m.tag(number, 2), m.varint(uint64(max(n, 0))), b)
}

// tag is a tag, perhaps another one.
func (m *maker) tag(number, kind int) []byte {
	if m.breaks() {
		number = []int{0, 18, 19, number - 1, number + 1, 1 << 29, 1<<29 - 1, 1 << 33, number + 1<<29}[m.Intn(9)]
	}
	if m.breaks() {
		kind = m.Intn(8)
	}
	return m.varint(uint64(number*8 + kind))
}

// varint is a varint, often longer than need be, perhaps over or without its end.
func (m *maker) varint(u uint64) []byte {
	b := varint(int(u))
	if m.Intn(8) == 0 {
		b = longer(b, min(10, len(b)+1+m.Intn(9)))
	}
	if !m.breaks() {
		return b
	}
	if m.Intn(2) == 0 {
		return append(bytes.Repeat(row("81"), 9), []byte{0, 2, 0x7f, 0x80}[m.Intn(4)])
	}
	b[len(b)-1] |= 0x80
	return b
}

// longer is a varint of so many bytes that has the same value.
func longer(b []byte, size int) []byte {
	b = slices.Clone(b)
	for len(b) < size {
		b[len(b)-1] |= 0x80
		b = append(b, 0)
	}
	return b
}

// cut is bytes, perhaps without some at the end.
func (m *maker) cut(b []byte) []byte {
	if len(b) > 0 && m.breaks() {
		return b[:m.Intn(len(b))]
	}
	return b
}

// mangled is bytes of which one or two are changed, put in, or taken out.
func (m *maker) mangled(b []byte) []byte {
	b = slices.Clone(b)
	for range 1 + m.Intn(2) {
		i := m.Intn(len(b) + 1)
		c := []byte{0, 1, 2, 8, 0x0a, 0x0b, 0x0c, 0x10, 0x12, 0x7f, 0x80, 0xff, byte(m.Intn(256))}[m.Intn(13)]
		switch {
		case m.Intn(4) == 0 || i == len(b):
			b = slices.Insert(b, i, c)
		case m.Intn(3) == 0:
			b = slices.Delete(b, i, i+1)
		case m.Intn(2) == 0:
			b[i] ^= 1 << m.Intn(8)
		default:
			b[i] = c
		}
	}
	return b
}

// judged looks whether the three calls answer what a second reading says of bytes; it tells that error.
func judged(t *testing.T, s *bind.Schema, name string, b []byte) api.Errno {
	t.Helper()
	want := secondly(s, name, b)
	switch want.bad.err {
	case api.OK:
		reads(t, s, name, b, want.tree, want.skips...)
	case api.ErrSize:
		tooLarge(t, s, name, b)
	default:
		refuses(t, s, name, b, want.bad.at, want.bad.err)
	}
	return want.bad.err
}

// allErrors are the errors that a row of few bytes may have.
var allErrors = []api.Errno{api.OK, api.ErrEnds, api.ErrOver, api.ErrNumber, api.ErrKind, api.ErrGroup, api.ErrDepth, api.ErrUtf8}

func TestMade(t *testing.T) { // P1101 to P1107, P1109: what a second reading of the document says of made rows of bytes, right ones and broken ones
	s := wideSchema()
	seen := map[api.Errno]int{}
	for seed := range int64(3000) {
		for _, name := range s.Messages() {
			m := newMaker(seed)
			m.rare = []int{0, 0, 5, 20, 60}[m.Intn(5)]
			b := m.written(name, 1+m.Intn(4))
			if name == "w.W" {
				for range []int{0, 0, 0, 59, 60, 61, 62, 63}[m.Intn(8)] {
					b = record(api.TMessage, b)
				}
			}
			seen[judged(t, s, name, b)]++
		}
	}
	for _, e := range allErrors {
		if seen[e] < 20 {
			t.Errorf("%d of the made rows are %v: too few", seen[e], e)
		}
	}
}

func TestMangled(t *testing.T) { // P1101 to P1107: bytes of which some are changed, put in, taken out, cut off
	s := wideSchema()
	seen := map[api.Errno]int{}
	for seed := range int64(900) {
		for _, name := range s.Messages() {
			m := newMaker(seed)
			b := m.written(name, 1+m.Intn(4))
			for range 3 {
				seen[judged(t, s, name, m.mangled(b))]++
			}
			seen[judged(t, s, name, b[:m.Intn(len(b)+1)])]++
		}
	}
	if len(seen) < 7 || seen[api.OK] < 800 {
		t.Errorf("the mangled rows have too few errors: %v", seen)
	}
}

func TestEveryPrefix(t *testing.T) { // P1102: of right bytes every prefix: ErrEnds at what is cut, or right bytes too
	s := wideSchema()
	for seed := range int64(40) {
		for _, name := range s.Messages() {
			m := newMaker(seed)
			b := m.written(name, 1+m.Intn(4))
			for i := range b {
				if e := judged(t, s, name, b[:i]); e != api.OK && e != api.ErrEnds {
					t.Fatalf("a prefix of right bytes is %v", e)
				}
			}
		}
	}
}

func TestAllSmallRows(t *testing.T) { // P1101 to P1107, P1109: all rows of few bytes
	s := smallSchema()
	seen := map[api.Errno]int{}
	try := func(b []byte) { seen[judged(t, s, "p.M", b)]++ }
	for i := range 1 << 16 {
		if t.Failed() {
			return
		}
		try([]byte{byte(i), byte(i >> 8)})
		if i < 256 {
			try([]byte{byte(i)})
		}
	}
	letters := row("00 01 02 04 08 0a 0b 0c 12 1a 22 28 3a 61 80 ff")
	for length := 3; length <= 4; length++ {
		all := 1
		for range length {
			all *= len(letters)
		}
		for i := range all {
			b := make([]byte, length)
			for k := range b {
				b[k] = letters[i%len(letters)]
				i /= len(letters)
			}
			try(b)
		}
	}
	if seen[api.OK] < 5000 {
		t.Errorf("%d rows are read: too few", seen[api.OK])
	}
}

func TestThereAndBack(t *testing.T) { // P1109: what Encode writes is read as the tree that was written
	s := wideSchema()
	for _, name := range s.Messages() {
		e := encode.New(s)
		for seed := range int64(800) {
			v := newMaker(seed).normal(name)
			b, x := e.Encode(name, v)
			if x != api.OK {
				t.Fatalf("Encode(%s): %v", short(v), x)
			}
			reads(t, s, name, b, v)
		}
	}
}
