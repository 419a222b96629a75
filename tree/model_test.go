package tree_test

import (
	"cmp"
	"encoding/binary"
	"slices"
	"unicode/utf8"

	"sigil/api"
)

// A second reading of the chapter, word by word, over the wide schema: it gathers all faults of a walk, holds each entry against all others, and writes the canonical bytes.

// second gathers faults.
type second struct{ found []answer }

// fault notes a fault at a place.
func (m *second) fault(wrong bool, e api.Errno, at []int) {
	if wrong {
		m.found = append(m.found, answer{e, slices.Clone(at)})
	}
}

// secondField is the field of a number; of card 0 if there is none.
func secondField(name string, number int) api.Field {
	info, _ := wideSchema().Message(name)
	for _, f := range info.Fields {
		if f.Number == number {
			return f
		}
	}
	return api.Field{}
}

// secondCheck is what Typed and Normal answer.
func secondCheck(name string, v api.Value) (loose, strict answer) {
	m := &second{}
	m.message(nil, name, v, 1)
	for _, e := range []api.Errno{api.ErrType, api.ErrNormal, api.ErrDepth} {
		for _, a := range m.found {
			if a.e != e {
				continue
			}
			if strict.e == api.OK {
				strict = a
			}
			if loose.e == api.OK && e != api.ErrNormal {
				loose = a
			}
		}
	}
	return loose, strict
}

// holds says whether a value has just these parts beside its kind.
func holds(v api.Value, kind int, number, text, list, fields bool) bool {
	return v.Kind == kind && (number || v.Num == 0) && (text || v.Text == "") && (list || len(v.List) == 0) && (fields || len(v.Fields) == 0)
}

func (m *second) message(at []int, name string, v api.Value, messages int) {
	if !holds(v, api.VMessage, false, false, false, true) {
		m.fault(true, api.ErrType, at)
		return
	}
	m.fault(messages == 65, api.ErrDepth, at)
	for i, e := range v.Fields {
		there := joined(at, trail(e.Number))
		f := secondField(name, e.Number)
		if f.Card == 0 {
			m.fault(true, api.ErrType, there)
			continue
		}
		m.fault(i > 0 && e.Number <= v.Fields[i-1].Number, api.ErrNormal, there)
		for _, ahead := range v.Fields[:i] {
			m.fault(f.Oneof > 0 && secondField(name, ahead.Number).Oneof == f.Oneof, api.ErrNormal, there)
		}
		m.fault(secondGoes(f, e.Value), api.ErrNormal, there)
		m.field(there, f, e.Value, messages)
	}
}

// secondGoes says whether a value is an implicit zero or empty.
func secondGoes(f api.Field, v api.Value) bool {
	if f.Card == api.CRepeated || f.Card == api.CMap {
		return len(v.List) == 0
	}
	implicit := f.Card == api.CSingle && f.Oneof == 0 && f.Type != api.TMessage
	return implicit && v.Num == 0 && v.Text == ""
}

func (m *second) field(at []int, f api.Field, v api.Value, messages int) {
	switch f.Card {
	case api.CRepeated:
		m.fault(!holds(v, api.VList, false, false, true, false), api.ErrType, at)
		for i, in := range v.List {
			m.value(joined(at, trail(i)), f.Type, f.Of, in, messages)
		}
	case api.CMap:
		m.fault(!holds(v, api.VMap, false, false, true, false), api.ErrType, at)
		for i, in := range v.List {
			there := joined(at, trail(i))
			if !holds(in, api.VPair, false, false, true, false) || len(in.List) != 2 {
				m.fault(true, api.ErrType, there)
				continue
			}
			m.fault(i > 0 && len(v.List[i-1].List) > 0 && secondKeys(f.Key, v.List[i-1].List[0], in.List[0]) >= 0, api.ErrNormal, there)
			m.value(joined(there, trail(1)), f.Key, "", in.List[0], messages)
			m.value(joined(there, trail(2)), f.Type, f.Of, in.List[1], messages)
		}
	default:
		m.value(at, f.Type, f.Of, v, messages)
	}
}

func (m *second) value(at []int, typ int, of string, v api.Value, messages int) {
	switch typ {
	case api.TMessage:
		m.message(at, of, v, messages+1)
	case api.TString:
		m.fault(!holds(v, api.VText, false, true, false, false) || !utf8.ValidString(v.Text), api.ErrType, at)
	case api.TBytes:
		m.fault(!holds(v, api.VText, false, true, false, false), api.ErrType, at)
	default:
		right := holds(v, api.VNum, true, false, false, false)
		switch typ {
		case api.TInt32, api.TSint32, api.TSfixed32, api.TEnum:
			right = right && v.Num == int(int32(v.Num))
		case api.TUint32, api.TFixed32, api.TFloat:
			right = right && v.Num == int(uint32(v.Num))
		case api.TBool:
			right = right && (v.Num == 0 || v.Num == 1)
		}
		m.fault(!right, api.ErrType, at)
	}
}

// secondNormal is what Normalise answers of a typed tree.
func secondNormal(name string, v api.Value) api.Value {
	out := msg()
	for i, e := range v.Fields {
		f := secondField(name, e.Number)
		stays := !secondGoes(f, e.Value)
		for _, behind := range v.Fields[i+1:] {
			g := secondField(name, behind.Number)
			if g.Number == f.Number || g.Oneof > 0 && g.Oneof == f.Oneof {
				stays = false
			}
		}
		if stays {
			out.Fields = append(out.Fields, at(e.Number, secondNormalField(f, e.Value)))
		}
	}
	slices.SortFunc(out.Fields, func(a, b api.Entry) int { return a.Number - b.Number })
	return out
}

func secondNormalField(f api.Field, v api.Value) api.Value {
	within := func(v api.Value) api.Value {
		if v.Kind == api.VMessage {
			return secondNormal(f.Of, v)
		}
		return v
	}
	out := api.Value{Kind: v.Kind, Num: v.Num, Text: v.Text}
	switch f.Card {
	case api.CRepeated:
		for _, in := range v.List {
			out.List = append(out.List, within(in))
		}
	case api.CMap:
		for i, in := range v.List {
			if !slices.ContainsFunc(v.List[i+1:], func(behind api.Value) bool { return secondCompare(behind.List[0], in.List[0]) == 0 }) {
				out.List = append(out.List, pair(in.List[0], within(in.List[1])))
			}
		}
		slices.SortFunc(out.List, func(a, b api.Value) int { return secondKeys(f.Key, a.List[0], b.List[0]) })
	default:
		return within(v)
	}
	return out
}

// secondCompare is what Compare answers of trees that P6 does not refuse.
func secondCompare(a, b api.Value) int {
	if c := cmp.Or(cmp.Compare(a.Kind, b.Kind), cmp.Compare(a.Num, b.Num), cmp.Compare(a.Text, b.Text)); c != 0 {
		return c
	}
	if c := slices.CompareFunc(a.List, b.List, secondCompare); c != 0 {
		return c
	}
	return slices.CompareFunc(a.Fields, b.Fields, func(a, b api.Entry) int {
		if a.Number != b.Number {
			return cmp.Compare(a.Number, b.Number)
		}
		return secondCompare(a.Value, b.Value)
	})
}

// secondKeys is what Keys answers.
func secondKeys(typ int, a, b api.Value) int {
	switch typ {
	case api.TUint64, api.TFixed64:
		return cmp.Compare(uint64(a.Num), uint64(b.Num))
	case api.TString:
		return cmp.Compare(a.Text, b.Text)
	case api.TDouble, api.TFloat, api.TInt32, api.TInt64, api.TUint32, api.TSint32, api.TSint64, api.TFixed32, api.TSfixed32, api.TSfixed64, api.TBool, api.TEnum:
		return cmp.Compare(a.Num, b.Num)
	}
	return secondCompare(a, b)
}

// secondDepth is what Depth answers.
func secondDepth(v api.Value) int {
	most := 0
	for _, in := range v.List {
		most = max(most, secondDepth(in))
	}
	for _, in := range v.Fields {
		most = max(most, secondDepth(in.Value))
	}
	if v.Kind == api.VMessage {
		most++
	}
	return most
}

// secondWalk is what Walk tells of a typed tree.
func secondWalk(at []int, v api.Value) []told {
	l := []told{{at, v}}
	for i, in := range v.List {
		if v.Kind == api.VPair {
			i++
		}
		l = append(l, secondWalk(joined(at, trail(i)), in)...)
	}
	for _, in := range v.Fields {
		l = append(l, secondWalk(joined(at, trail(in.Number)), in.Value)...)
	}
	return l
}

// secondBytes are the canonical bytes of a normal message.
func secondBytes(name string, v api.Value) []byte {
	var b []byte
	for _, e := range v.Fields {
		f := secondField(name, e.Number)
		switch {
		case f.Card == api.CMap:
			for _, p := range e.Value.List {
				content := slices.Concat(secondRecord(1, f.Key, "", p.List[0]), secondRecord(2, f.Type, f.Of, p.List[1]))
				b = append(b, secondText(f.Number, content)...)
			}
		case f.Card == api.CRepeated && (f.Type == api.TString || f.Type == api.TBytes || f.Type == api.TMessage):
			for _, in := range e.Value.List {
				b = append(b, secondRecord(f.Number, f.Type, f.Of, in)...)
			}
		case f.Card == api.CRepeated:
			var block []byte
			for _, in := range e.Value.List {
				n, _ := secondNumber(f.Type, in.Num)
				block = append(block, n...)
			}
			b = append(b, secondText(f.Number, block)...)
		default:
			b = append(b, secondRecord(f.Number, f.Type, f.Of, e.Value)...)
		}
	}
	return b
}

// secondRecord is one record of a value.
func secondRecord(number, typ int, of string, v api.Value) []byte {
	switch typ {
	case api.TString, api.TBytes:
		return secondText(number, []byte(v.Text))
	case api.TMessage:
		return secondText(number, secondBytes(of, v))
	}
	n, kind := secondNumber(typ, v.Num)
	return append(binary.AppendUvarint(nil, uint64(number*8+kind)), n...)
}

// secondText is a record of kind 2.
func secondText(number int, content []byte) []byte {
	b := binary.AppendUvarint(nil, uint64(number*8+api.WText))
	return append(binary.AppendUvarint(b, uint64(len(content))), content...)
}

// secondNumber is a number without a tag, and its wire kind.
func secondNumber(typ, n int) ([]byte, int) {
	switch typ {
	case api.TFixed32, api.TSfixed32, api.TFloat:
		return binary.LittleEndian.AppendUint32(nil, uint32(n)), api.WFixed32
	case api.TFixed64, api.TSfixed64, api.TDouble:
		return binary.LittleEndian.AppendUint64(nil, uint64(n)), api.WFixed64
	case api.TSint32, api.TSint64:
		return binary.AppendVarint(nil, int64(n)), api.WVarint
	}
	return binary.AppendUvarint(nil, uint64(n)), api.WVarint
}
