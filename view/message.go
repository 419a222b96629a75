package view

import (
	"cmp"
	"slices"

	"sigil/api"
)

// message is a message of a type, so deep, in pieces, each of which is read by itself.
type message struct {
	*lens
	of     string
	depth  int
	pieces [][]byte
}

// owned is the message on bytes of its own: else a view of it would hold all those in which it lies.
func (m message) owned() message {
	all, pieces := slices.Concat(m.pieces...), make([][]byte, len(m.pieces))
	for i, piece := range m.pieces {
		pieces[i], all = all[:len(piece)], all[len(piece):]
	}
	m.pieces = pieces
	return m
}

// fields tells the message's field of a number.
func (m message) fields(number int) (api.Field, bool) {
	f, e := m.schema.Field(m.of, number)
	return f, e == api.OK
}

// look looks into the message.
func (m message) look() seats {
	in := seats{}
	for _, piece := range m.pieces {
		m.records(piece, m.depth, m.fields, in.take)
	}
	return in
}

func (m message) next(st api.Step) held {
	f, _ := m.fields(st.Number)
	return m.holds(f, m.depth, m.look().of(f))
}

func (m message) check() {
	for _, piece := range m.pieces {
		m.records(piece, m.depth, m.fields, m.whole(m.depth))
	}
}

func (m message) value() api.Value {
	v := api.Value{Kind: api.VMessage}
	for _, s := range m.look() {
		if h := m.holds(s.field, m.depth, s.records); h != nil {
			v.Fields = append(v.Fields, api.Entry{Number: s.field.Number, Value: h.value()})
		}
	}
	slices.SortFunc(v.Fields, func(a, b api.Entry) int { return cmp.Compare(a.Number, b.Number) })
	return v
}
