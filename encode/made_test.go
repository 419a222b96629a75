package encode_test

import (
	"math"
	"math/rand"
	"slices"
	"testing"

	"sigil/api"
	"sigil/encode"
	"sigil/tree"
)

// maker makes typed trees of the wide schema, and breaks them.
type maker struct{ *rand.Rand }

func newMaker(seed int64) *maker { return &maker{rand.New(rand.NewSource(seed))} }

// message makes a message in which others lie so many levels deep.
func (m *maker) message(name string, levels int) api.Value {
	info, _ := wideSchema().Message(name)
	v := msg()
	for range m.Intn(6) {
		f := info.Fields[m.Intn(len(info.Fields))]
		if f.Type == api.TMessage && levels <= 1 {
			continue
		}
		v.Fields = append(v.Fields, at(f.Number, m.field(f, levels)))
	}
	return v
}

// field makes a value that fits a field.
func (m *maker) field(f api.Field, levels int) api.Value {
	switch f.Card {
	case api.CRepeated:
		l := list()
		for range m.Intn(4) {
			l.List = append(l.List, m.value(f.Type, f.Of, levels))
		}
		return l
	case api.CMap:
		l := dict()
		for range m.Intn(5) {
			l.List = append(l.List, pair(m.value(f.Key, "", levels), m.value(f.Type, f.Of, levels)))
		}
		return l
	}
	return m.value(f.Type, f.Of, levels)
}

// value makes a value of a type.
func (m *maker) value(typ int, of string, levels int) api.Value {
	switch typ {
	case api.TMessage:
		return m.message(of, levels-1)
	case api.TString:
		return text([]string{"", "", "a", "b", "a\x00", "é", "\U0010ffff"}[m.Intn(7)])
	case api.TBytes:
		return text([]string{"", "", "a", "\xff", "\x00"}[m.Intn(5)])
	case api.TBool:
		return num(m.Intn(2))
	case api.TInt32, api.TSint32, api.TSfixed32, api.TEnum:
		return num([]int{0, 0, 1, -1, 64, -65, math.MinInt32, math.MaxInt32, 300}[m.Intn(9)])
	case api.TUint32, api.TFixed32, api.TFloat:
		return num([]int{0, 0, 1, 128, math.MaxUint32, 1 << 31}[m.Intn(6)])
	}
	return num([]int{0, 0, 1, -1, math.MinInt, math.MaxInt, 1 << 40, -1 << 62}[m.Intn(8)])
}

// normal makes a normal tree of a type.
func (m *maker) normal(name string) api.Value {
	v, _, e := tree.Normalise(wideSchema(), name, m.message(name, 1+m.Intn(5)))
	if e != api.OK {
		panic(e)
	}
	return v
}

// all are the places of all values that hang on one, itself too.
func all(v *api.Value) []*api.Value {
	l := []*api.Value{v}
	for i := range v.List {
		l = append(l, all(&v.List[i])...)
	}
	for i := range v.Fields {
		l = append(l, all(&v.Fields[i].Value)...)
	}
	return l
}

// copied is a copy that shares nothing.
func copied(v api.Value) api.Value {
	v.List, v.Fields = slices.Clone(v.List), slices.Clone(v.Fields)
	for i := range v.List {
		v.List[i] = copied(v.List[i])
	}
	for i := range v.Fields {
		v.Fields[i].Value = copied(v.Fields[i].Value)
	}
	return v
}

// broken is a tree that is changed in one thing somewhere.
func (m *maker) broken(v api.Value) api.Value {
	v = copied(v)
	places := all(&v)
	p := places[m.Intn(len(places))]
	switch m.Intn(10) {
	case 0:
		p.Kind = m.Intn(9) - 1
	case 1:
		p.Num = []int{-1, 0, 1, 2, math.MaxInt32 + 1, math.MinInt32 - 1, math.MaxUint32 + 1}[m.Intn(7)]
	case 2:
		p.Text = []string{"", "x", "\xff", "a"}[m.Intn(4)]
	case 3:
		p.List = append(p.List, []api.Value{num(0), text(""), msg(), list(), dict(), pair(), pair(text("a"), num(1))}[m.Intn(7)])
	case 4:
		if len(p.List) > 0 {
			p.List = p.List[1:]
		}
	case 5:
		p.Fields = append(p.Fields, at([]int{0, 1, 3, 18, 19, 40, 43, 63, 101, 999}[m.Intn(10)], num(m.Intn(2))))
	case 6:
		if len(p.Fields) > 0 {
			p.Fields[m.Intn(len(p.Fields))].Number += m.Intn(5) - 2
		}
	case 7:
		*p = copied(*places[m.Intn(len(places))])
	case 8:
		m.Shuffle(len(p.List), func(i, j int) { p.List[i], p.List[j] = p.List[j], p.List[i] })
		m.Shuffle(len(p.Fields), func(i, j int) { p.Fields[i], p.Fields[j] = p.Fields[j], p.Fields[i] })
	case 9:
		if len(p.Fields) > 0 {
			p.Fields = append(p.Fields, p.Fields[m.Intn(len(p.Fields))])
		} else if len(p.List) > 0 {
			p.List = append(p.List, p.List[m.Intn(len(p.List))])
		}
	}
	return v
}

// made are trees of a seed: one that is normal, and this with one thing or two changed.
func made(seed int64, name string) []api.Value {
	m := newMaker(seed)
	v := m.normal(name)
	return []api.Value{v, m.broken(v), m.broken(v), m.broken(m.broken(v))}
}

// A second reading of P12: the canonical bytes of a normal message of the wide schema.
func secondBytes(name string, v api.Value) []byte {
	var b []byte
	for _, entry := range v.Fields {
		f, _ := wideSchema().Field(name, entry.Number)
		b = append(b, secondField(f, entry.Value)...)
	}
	return b
}

// secondField is what is written for a field.
func secondField(f api.Field, v api.Value) []byte {
	var b []byte
	switch {
	case f.Card == api.CMap:
		for _, p := range v.List {
			b = append(b, record(f.Number, secondRecord(1, f.Key, "", p.List[0]), secondRecord(2, f.Type, f.Of, p.List[1]))...)
		}
	case f.Card == api.CRepeated && kindOf(f.Type) == 2:
		for _, in := range v.List {
			b = append(b, secondRecord(f.Number, f.Type, f.Of, in)...)
		}
	case f.Card == api.CRepeated:
		for _, in := range v.List {
			b = append(b, secondNumber(f.Type, in.Num)...)
		}
		return record(f.Number, b)
	default:
		return secondRecord(f.Number, f.Type, f.Of, v)
	}
	return b
}

// secondRecord is one record of a value.
func secondRecord(number, typ int, of string, v api.Value) []byte {
	switch typ {
	case api.TString, api.TBytes:
		return record(number, []byte(v.Text))
	case api.TMessage:
		return record(number, secondBytes(of, v))
	}
	return slices.Concat(tag(number, kindOf(typ)), secondNumber(typ, v.Num))
}

// secondNumber is a number without a tag, byte by byte.
func secondNumber(typ, n int) []byte {
	var b []byte
	u := uint64(n)
	switch {
	case kindOf(typ) == 5:
		return []byte{byte(n), byte(n >> 8), byte(n >> 16), byte(n >> 24)}
	case kindOf(typ) == 1:
		for i := range 8 {
			b = append(b, byte(u>>(8*i)))
		}
		return b
	case typ == api.TSint32 || typ == api.TSint64:
		u = 2 * u
		if n < 0 {
			u = -u - 1
		}
	}
	for u > 127 {
		b = append(b, byte(u%128+128))
		u /= 128
	}
	return append(b, byte(u))
}

func TestMade(t *testing.T) { // P903 to P905: what a second reading of the document says of made trees
	s := wideSchema()
	for _, name := range s.Messages() {
		e := encode.New(s)
		for seed := range int64(1500) {
			v := newMaker(seed).normal(name)
			written(t, s, e, name, v, secondBytes(name, v))
		}
	}
}
