package project

import (
	"slices"

	"sigil/api"
)

// types are the names of two message types that meet: the old one wrote, the new one reads.
type types struct{ old, now string }

// fields are a field of an old type and the new type's field of that number. A card of 0: the new type has none.
type fields struct{ old, now api.Field }

// fields tells the fields of an old type, each with that of the new type.
func (p *Plan) fields(t types) []fields {
	m, _ := p.from.Message(t.old)
	l := make([]fields, len(m.Fields))
	for i, f := range m.Fields {
		g, _ := p.to.Field(t.now, f.Number)
		l[i] = fields{f, g}
	}
	return l
}

// keepsAll says whether in none of the pairs of types a field may be lost.
func (p *Plan) keepsAll(pairs []api.Pair) bool {
	return !slices.ContainsFunc(pairs, func(pair api.Pair) bool {
		return slices.ContainsFunc(p.fields(types{pair.Old, pair.New}), fields.loses)
	})
}

// loses says whether there is a value of the old field that the new type does not keep.
func (f fields) loses() bool { return f.gone() || explicitScalar(f.old) && implicit(f.now) }

// gone says whether the new type has no such field.
func (f fields) gone() bool { return f.now.Card == 0 }

// implicit says whether a field's zero is not there.
func implicit(f api.Field) bool {
	return f.Card == api.CSingle && f.Oneof == 0 && f.Type != api.TMessage
}

// explicitScalar says whether a field is of a scalar or an enum, and may hold a zero.
func explicitScalar(f api.Field) bool {
	return f.Type != api.TMessage && (f.Card == api.COptional || f.Oneof > 0)
}
