package view_test

import (
	"bytes"
	"math"
	"math/rand"
	"slices"
	"sync"

	"sigil/api"
	"sigil/bind"
)

// maker makes messages of the wide schema as any writer may write them, with faults, and paths into them.
type maker struct {
	*rand.Rand
	rare  int // one of so many things is at fault that lie in the content of a record of the top; 0: none is
	level int // so many records lie around what is made
}

func newMaker(seed int64) *maker { return &maker{Rand: rand.New(rand.NewSource(seed))} }

// pick is one of some.
func pick[T any](m *maker, l ...T) T { return l[m.Intn(len(l))] }

// breaks says whether the next thing is to be at fault.
func (m *maker) breaks() bool { return m.rare > 0 && m.level > 0 && m.Intn(m.rare) == 0 }

// message is a message of a type, in which others lie so many levels deep: records in any order, the same field again, others between.
func (m *maker) message(name string, levels int) []byte {
	var b []byte
	for range m.Intn(10) {
		f := m.field(name)
		switch {
		case m.Intn(7) == 0:
			b = append(b, m.stranger()...)
		case m.Intn(12) == 0:
			b = append(b, pick(m, wrongKinds(f)...)...)
		case f.Type != api.TMessage || levels > 1:
			b = append(b, m.known(f, levels)...)
		}
	}
	return m.cut(b)
}

// fieldsOf are the fields of the messages of both schemas.
var fieldsOf = sync.OnceValue(func() map[string][]api.Field {
	all := map[string][]api.Field{}
	for _, s := range []*bind.Schema{smallSchema(), wideSchema()} {
		for _, name := range s.Messages() {
			info, _ := s.Message(name)
			all[name] = info.Fields
		}
	}
	return all
})

// field is a field of a message: mostly one of few, so that many are met again.
func (m *maker) field(name string) api.Field {
	l := fieldsOf()[name]
	few := []int{api.TInt32, api.TString, api.TMessage, repeated + api.TSint32, repeated + api.TString, repeated + api.TMessage, mapped + api.TInt32, mapped + api.TMessage, keyed + api.TUint64, member + api.TString, member + api.TMessage, member + api.TBool, ofU, ofV, listV, mapV}
	number := pick(m, few...)
	if i := slices.IndexFunc(l, func(f api.Field) bool { return f.Number == number }); i >= 0 && m.Intn(4) > 0 {
		return l[i]
	}
	return pick(m, l...)
}

// stranger is a record of a number that no field has, or a group of any number.
func (m *maker) stranger() []byte {
	if m.Intn(2) == 0 {
		number := pick(m, unknown, strange, 1000, api.MaxNumber)
		return pick(m, rows(m.tag(number, 0), m.varint(m.Uint64())), rows(m.tag(number, 1), make([]byte, 8)), rows(m.tag(number, 5), make([]byte, 4)), m.record(number, row("ff 0c 00")))
	}
	number := pick(m, 1, 2, 3, 17, unknown)
	end := number
	if m.breaks() {
		end = pick(m, 1, strange)
	}
	in := pick(m, nil, row("18 01"), row("72 01 ff"), row("8a 01 01 00"), rows(m.tag(strange, 3), row("08 01"), m.tag(strange, 4)))
	return rows(m.tag(number, 3), in, m.tag(end, 4))
}

// known is a record that goes with a field.
func (m *maker) known(f api.Field, levels int) []byte {
	switch {
	case f.Card == api.CMap:
		return m.within(f.Number, func() []byte { return m.pair(f, levels) })
	case packed(f) && m.Intn(2) == 0:
		return m.within(f.Number, func() []byte {
			var block []byte
			for range m.Intn(4) {
				block = append(block, m.number(f.Type)...)
			}
			return m.cut(block)
		})
	}
	return m.one(f.Number, f.Type, f.Of, levels)
}

// pair is the content of a map's pair: key and value, neither, both twice, others between.
func (m *maker) pair(f api.Field, levels int) []byte {
	var b []byte
	for _, number := range pick(m, [][]int{{}, {1}, {2}, {1, 2}, {1, 2}, {1, 2}, {2, 1}, {1, 1, 2}, {1, 2, 2}, {2, 3, 1}, {4, 1, 2}}...) {
		switch {
		case number > 2:
			b = append(b, m.stranger()...)
		case m.Intn(15) == 0:
			in, _ := ofPair(f)(number)
			b = append(b, pick(m, wrongKinds(in)...)...)
		case number == 1:
			b = append(b, m.one(1, f.Key, "", levels)...)
		default:
			b = append(b, m.one(2, f.Type, f.Of, levels)...)
		}
	}
	return m.cut(b)
}

// one is a record of one value.
func (m *maker) one(number, typ int, of string, levels int) []byte {
	switch typ {
	case api.TString, api.TBytes:
		return m.within(number, func() []byte {
			x := pick(m, "", "", "a", "b", "k", "a\x00", "é", "\U0010ffff")
			if m.rare > 0 && m.Intn(10) == 0 {
				x += pick(m, "\xff", "\xc3", "é\x80", "\xed\xa0\x80")
			}
			return []byte(x)
		})
	case api.TMessage:
		return m.within(number, func() []byte { return m.message(of, levels-1) })
	}
	return rows(m.tag(number, kindOf(typ)), m.number(typ))
}

// number is a number without a tag, often a small one, often one whose low bits alone count.
func (m *maker) number(typ int) []byte {
	u := pick(m, 0, 0, 0, 1, 1, 2, 3, 300, math.MaxInt32, 1<<31, 1<<32, 1<<32+1, 1<<64-1<<31, 1<<63, math.MaxUint64, m.Uint64())
	b := make([]byte, 8)
	for i := range b {
		b[i] = byte(u >> (8 * i))
	}
	switch kindOf(typ) {
	case 5:
		return m.cut(b[:4])
	case 1:
		return m.cut(b)
	}
	return m.varint(u)
}

// within is a record of what is made for it.
func (m *maker) within(number int, content func() []byte) []byte {
	m.level++
	b := content()
	m.level--
	return m.record(number, b)
}

// record is a record of kind 2, its length perhaps off by one.
func (m *maker) record(number int, b []byte) []byte {
	n := len(b)
	if m.breaks() {
		n = max(0, n+1-2*m.Intn(2))
	}
	return rows(m.tag(number, 2), m.varintOf(uint64(n), 30), b)
}

// tag is a tag, perhaps another one.
func (m *maker) tag(number, kind int) []byte {
	if m.breaks() {
		number = pick(m, 0, unknown, number-1, number+1, 1<<29)
	}
	if m.breaks() {
		kind = m.Intn(8)
	}
	return m.varintOf(uint64(max(number, 0)*8+kind), 30)
}

// varint is a varint of a number, often longer than need be, perhaps over or without its end.
func (m *maker) varint(u uint64) []byte { return m.varintOf(u, 6) }

func (m *maker) varintOf(u uint64, often int) []byte {
	b := varint(int(u))
	if m.Intn(often) == 0 {
		b = longer(b, min(10, len(b)+1+m.Intn(9)))
	}
	if m.breaks() {
		return pick(m, rows(bytes.Repeat(row("81"), 9), pick(m, row("02"), row("80"))), rows(b[:len(b)-1], []byte{b[len(b)-1] | 0x80}))
	}
	return b
}

// cut is bytes, perhaps without some at the end.
func (m *maker) cut(b []byte) []byte {
	if len(b) > 0 && m.breaks() {
		return b[:m.Intn(len(b))]
	}
	return b
}

// mangled is bytes of which one or two are changed, put in, or taken out.
func (m *maker) mangled(b []byte) []byte {
	b = slices.Clone(b)
	for range 1 + m.Intn(2) {
		i := m.Intn(len(b) + 1)
		c := pick(m, 0, 1, 2, 8, 0x0a, 0x0b, 0x0c, 0x10, 0x12, 0x7f, 0x80, 0xff, byte(m.Intn(256)))
		switch {
		case m.Intn(4) == 0 || i == len(b):
			b = slices.Insert(b, i, c)
		case m.Intn(3) == 0:
			b = slices.Delete(b, i, i+1)
		default:
			b[i] = c
		}
	}
	return b
}

// steps are those of a path: mostly to what is there, or near it.
func (m *maker) steps(q second, name string, b []byte) []api.Step {
	var steps []api.Step
	x, there := whole(name, b), true
	for m.Intn(6) > 0 {
		st, ok := m.step(q, x)
		if !ok {
			break
		}
		next, on, e := q.onward(x, there, st)
		steps, x, there = append(steps, st), next, on && e == api.OK
	}
	return steps
}

// step goes on from a thing, if any step does.
func (m *maker) step(q second, x thing) (api.Step, bool) {
	switch {
	case x.field.Card == api.CRepeated:
		return api.Step{Kind: api.SIndex, Number: m.Intn(len(x.parts) + 2)}, true
	case x.field.Card == api.CMap:
		key := zeroOf(x.field.Key)
		if l, e := q.pairs(x); e == api.OK && len(l) > 0 && m.Intn(4) > 0 {
			key = pick(m, l...).key
		} else if key.Kind == api.VText {
			key.Text = pick(m, "", "a", "k", "é")
		} else {
			key.Num = m.Intn(2)
		}
		return api.Step{Kind: api.SKey, Key: key}, true
	case x.field.Type == api.TMessage:
		f := m.field(x.field.Of)
		if len(x.parts) > 0 && m.Intn(4) > 0 {
			if l, _, e := split(pick(m, x.parts...).text, x.depth+1, ofMessage(q.s, x.field.Of)); e == api.OK && len(l) > 0 {
				f, _ = q.s.Field(x.field.Of, pick(m, l...).number)
			}
		}
		return api.Step{Kind: api.SField, Number: f.Number}, true
	}
	return api.Step{}, false
}
