package sign

import (
	"sigil/api"
	"sigil/bind"
)

// spot is where a value stands in a tree: the field that says what may stand there. A value of a list or map has its field as a single one.
type spot struct{ api.Field }

// top is where a whole message stands.
func top(name string) spot {
	return spot{api.Field{Card: api.CSingle, Type: api.TMessage, Of: name}}
}

// single is the spot of the values of the list or map that stands there.
func (p spot) single() spot {
	p.Card = api.CSingle
	return p
}

// after is the spot to which a step goes.
func (p spot) after(s *bind.Schema, st api.Step) spot {
	if st.Kind != api.SField {
		return p.single()
	}
	f, _ := s.Field(p.Of, st.Number)
	return spot{f}
}

// isList says whether a list or a map stands there.
func (p spot) isList() bool { return p.Card == api.CRepeated || p.Card == api.CMap }

// isLeaf says whether a number or a text stands there.
func (p spot) isLeaf() bool { return !p.isList() && p.Type != api.TMessage }

// idle says whether a value of the field is one that a normal message does not have: an implicit zero, an empty list or map.
func (p spot) idle(v *api.Value) bool {
	if p.isList() {
		return len(v.List) == 0
	}
	implicit := p.Card == api.CSingle && p.Oneof == 0 && p.isLeaf()
	return implicit && v.Num == 0 && v.Text == ""
}

// oversized says whether a list or map in a tree has more parts, or a text more bytes, than are hashed.
func oversized(v *api.Value) bool {
	if len(v.List) > api.MaxLeaves || len(v.Text) > api.MaxMessage {
		return true
	}
	for i := range v.List {
		if oversized(&v.List[i]) {
			return true
		}
	}
	for i := range v.Fields {
		if oversized(&v.Fields[i].Value) {
			return true
		}
	}
	return false
}
