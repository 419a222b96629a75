package tree

import (
	"sigil/api"
	"sigil/bind"
	"sigil/wire"
)

// size tells how many canonical bytes a normal tree has.
func size(s *bind.Schema, p spot) int {
	return fold(p, folding[spot, int]{
		parts: func(p spot) int { return parts(p.v) },
		part:  func(p spot, i int) spot { return within(s, p, i) },
		begin: func(spot) (int, bool) { return 0, true },
		join:  func(so, part int) int { return so + part },
		end:   spot.size,
	})
}

// size tells how many bytes are written for a value whose parts have so many.
func (p spot) size(inner int) int {
	switch {
	case p.v.Kind == api.VNum:
		return tagSize(p.field.Number) + numberSize(p.field.Type, p.v.Num)
	case p.v.Kind == api.VText:
		inner = len(p.v.Text)
	case p.v.Kind == api.VMap, p.v.Kind == api.VList && !numeric(p.field.Type):
		return inner // the parts are records of their own
	case p.field.Number == 0:
		return inner // the top
	}
	return tagSize(p.field.Number) + len(wire.Varint(inner)) + inner
}

// tagSize tells the size of a field's tag: none for the number 0.
func tagSize(number int) int {
	if number == 0 {
		return 0
	}
	return len(wire.Varint(8 * number))
}

// numberSize tells the size of a number without a tag.
func numberSize(typ, n int) int {
	switch typ {
	case api.TFixed32, api.TSfixed32, api.TFloat:
		return 4
	case api.TFixed64, api.TSfixed64, api.TDouble:
		return 8
	case api.TSint32, api.TSint64:
		n = n<<1 ^ n>>63 // zigzag
	}
	return len(wire.Varint(n))
}
