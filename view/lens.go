package view

import (
	"sigil/api"
	"sigil/bind"
)

// lens is what all views of one message look through: the schema, and what the records of each type say.
type lens struct {
	schema *bind.Schema
	forms  [api.TMessage + 1]form
}

func newLens(s *bind.Schema) *lens { return &lens{s, forms()} }

// fields tells the field of a number in a message or a pair, if there is one.
type fields func(number int) (api.Field, bool)

// records takes the records off a piece of a message, or a pair, so deep, and hands out those of fields as they are met. Their content is not looked at.
func (l *lens) records(piece []byte, depth int, of fields, met func(f api.Field, r record)) {
	for p := newPart(piece); p.More(); {
		at := p.At()
		number, kind, e := p.Tag()
		refuse(p.At(), e)
		f, ok := of(number)
		switch {
		case !ok || !l.goes(f, kind):
			p.pass(at, number, kind, depth)
		case f.Type == api.TMessage && depth == api.MaxDepth: // in a map's pair one begins, written or not
			refuse(at, api.ErrDepth)
		default:
			met(f, p.take(kind))
		}
	}
}

// goes says whether a record of a wire kind is one of a field.
func (l *lens) goes(f api.Field, kind int) bool {
	switch own := l.forms[f.Type].kind; {
	case f.Card == api.CMap:
		return kind == api.WText
	case f.Card == api.CRepeated:
		return kind == own || kind == api.WText
	default:
		return kind == own
	}
}

// holds tells what a field holds by its records, in a message or a pair so deep; nil: nothing.
func (l *lens) holds(f api.Field, depth int, records []record) held {
	switch {
	case len(records) == 0:
		return nil
	case f.Card == api.CMap:
		return dict{l, f, depth, records}
	case f.Card == api.CRepeated:
		return l.listed(f, depth, records)
	}
	h := l.says(f, depth, records)
	if s, ok := h.(scalar); ok && f.Card == api.CSingle && f.Oneof == 0 && s.zero() {
		return nil
	}
	return h
}

// says tells what records of one value say together; of none the zero.
func (l *lens) says(f api.Field, depth int, records []record) held {
	return l.forms[f.Type].says(l, f, depth, records)
}

// whole reads each record with all in it when it is met, so that of all faults the first from the left is thrown.
func (l *lens) whole(depth int) func(f api.Field, r record) {
	return func(f api.Field, r record) {
		if h := l.holds(f, depth, []record{r}); h != nil {
			h.check()
		}
	}
}
