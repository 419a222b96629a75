package tree

import (
	"math"

	"sigil/api"
	"sigil/bind"
	"sigil/wire"
)

// aPair is the card of a map's pair, beside those that fields have.
const aPair = api.CMap + 1

// spot is a value of a tree, with the field that says what may stand there. What lies within a field has one made of it: a list's value a single one, without a number if it is written without a tag; a pair's key and value those of a message with the numbers 1 and 2. The top's has no number.
type spot struct {
	v     *api.Value
	field api.Field // of card 0: the type has no such field
}

// top is the spot of a whole tree.
func top(name string, v *api.Value) spot {
	return spot{v, api.Field{Card: api.CSingle, Type: api.TMessage, Of: name}}
}

// within tells the spot of a part of a value that fits.
func within(s *bind.Schema, p spot, i int) spot {
	f := p.field
	switch p.v.Kind {
	case api.VMessage:
		f, _ = s.Field(p.field.Of, p.v.Fields[i].Number)
	case api.VList:
		f.Card = api.CSingle
		if numeric(f.Type) {
			f.Number = 0
		}
	case api.VMap:
		f.Card = aPair
	case api.VPair:
		f = inPair(p.field, i)
	}
	return spot{part(p.v, i), f}
}

// inPair tells the field of a pair's key or value.
func inPair(f api.Field, i int) api.Field {
	if i == 0 {
		return api.Field{Number: 1, Card: api.CSingle, Type: f.Key}
	}
	return api.Field{Number: 2, Card: api.CSingle, Type: f.Type, Of: f.Of}
}

// fits says whether a value itself, whatever its parts are, may stand at its spot.
func (p spot) fits() bool {
	if p.field.Card == 0 || p.v.Kind != p.kind() || !pure(p.v) {
		return false
	}
	switch p.v.Kind {
	case api.VNum:
		least, most := bounds(p.field.Type)
		return least <= p.v.Num && p.v.Num <= most
	case api.VText:
		return p.field.Type != api.TString || wire.Utf8(p.v.Text) < 0
	case api.VPair:
		return len(p.v.List) == 2
	}
	return true
}

// kind tells of which kind a value at the spot is.
func (p spot) kind() int {
	switch p.field.Card {
	case api.CRepeated:
		return api.VList
	case api.CMap:
		return api.VMap
	case aPair:
		return api.VPair
	}
	return kindOf(p.field.Type)
}

// idle says whether a field's value is one that a normal tree does not have: an implicit zero, an empty list or map.
func (p spot) idle() bool {
	switch p.field.Card {
	case api.CRepeated, api.CMap:
		return len(p.v.List) == 0
	case api.COptional:
		return false
	}
	return p.field.Oneof == 0 && p.field.Type != api.TMessage && p.v.Num == 0 && p.v.Text == ""
}

// kindOf tells of which kind the values of a type are.
func kindOf(typ int) int {
	switch typ {
	case api.TString, api.TBytes:
		return api.VText
	case api.TMessage:
		return api.VMessage
	}
	return api.VNum
}

// numeric says whether a type's values are numbers. What is no type may be asked too.
func numeric(typ int) bool {
	return typ >= api.TDouble && typ <= api.TBool || typ == api.TEnum
}

// bounds tells the least and the greatest number of a numeric type.
func bounds(typ int) (int, int) {
	switch typ {
	case api.TInt32, api.TSint32, api.TSfixed32, api.TEnum:
		return math.MinInt32, math.MaxInt32
	case api.TUint32, api.TFixed32, api.TFloat:
		return 0, math.MaxUint32
	case api.TBool:
		return 0, 1
	}
	return math.MinInt, math.MaxInt
}
