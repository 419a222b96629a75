package loose

import (
	"sigil/api"
	"sigil/tree"
)

// plan says what is done with the fields of a message type, by their numbers.
type plan map[int]*field

// field is what is done with a field.
type field struct {
	number   int
	seat     int // its number; the members of a oneof have one in common, which is no number
	of       string
	zero     api.Value                             // what it begins with
	explicit bool                                  // whether it may be there with that
	deep     bool                                  // whether a message begins with each of its records
	kind     int                                   // the wire kind of its records
	lay      act                                   // what is done with one of them
	block    act                                   // of a list of numbers: what is done with one of WText
	join     func(under, over api.Value) api.Value // what comes of two values
	byKey    func(a, b api.Value) int              // of a map: what puts its pairs into their order
}

// plan tells the plan of a message type, or the error of its name. It is made when the type is first met, and not for the types that its fields name: each of these is asked for when a message of it is met, so that a type may hold itself.
func (c *call) plan(name string) (plan, api.Errno) {
	if fields, ok := c.plans[name]; ok {
		return fields, api.OK
	}
	m, e := c.schema.Message(name)
	if e != api.OK {
		return nil, e
	}
	fields := make(plan, len(m.Fields))
	for _, f := range m.Fields {
		fields[f.Number] = c.field(f)
	}
	c.plans[name] = fields
	return fields, api.OK
}

// field plans a field, by its card.
func (c *call) field(f api.Field) *field {
	switch f.Card {
	case api.CRepeated:
		return c.list(f)
	case api.CMap:
		return c.dict(f)
	}
	return c.single(f)
}

// single plans a field of one value.
func (c *call) single(f api.Field) *field {
	value := c.forms[f.Type]
	zero, _ := tree.Zero(f.Type)
	return &field{
		number:   f.Number,
		seat:     seat(f),
		of:       f.Of,
		zero:     zero,
		explicit: f.Card == api.COptional || f.Oneof > 0 || f.Type == api.TMessage,
		deep:     f.Type == api.TMessage,
		kind:     value.kind,
		lay:      value.lay,
		join:     c.joining(f),
	}
}

// seat tells the seat of a field.
func seat(f api.Field) int {
	if f.Oneof > 0 {
		return -f.Oneof
	}
	return f.Number
}

// list plans a field of many values.
func (c *call) list(f api.Field) *field {
	value := c.forms[f.Type]
	one := growing(value.lay)
	return &field{
		number: f.Number,
		seat:   f.Number,
		of:     f.Of,
		zero:   api.Value{Kind: api.VList},
		deep:   f.Type == api.TMessage,
		kind:   value.kind,
		lay:    one,
		block:  block(one), // never asked for of texts and messages: each record of WText is one of these
		join:   appended,
	}
}

// growing makes a list grow by what is laid upon nothing.
func growing(lay act) act {
	return func(p *part, h *held) {
		one := held{field: h.field}
		lay(p, &one)
		h.value.List = append(h.value.List, one.tree())
	}
}

// block reads values one behind the other, up to the end of a record.
func block(one act) act {
	return func(p *part, h *held) {
		for in := p.span(p.level); in.More(); {
			one(in, h)
		}
	}
}

// dict plans a map. Its pairs are read like messages of two fields, whose zeros stay.
func (c *call) dict(f api.Field) *field {
	k := c.single(api.Field{Number: 1, Card: api.COptional, Type: f.Key})
	v := c.single(api.Field{Number: 2, Card: api.COptional, Type: f.Type, Of: f.Of})
	both, order := plan{1: k, 2: v}, byKey(f.Key)
	pair := func(p *part, h *held) {
		in := draft{}
		c.records(p.span(p.level), both, in)
		h.put(in.at(k).tree(), in.at(v).tree())
	}
	return &field{
		number: f.Number,
		seat:   f.Number,
		zero:   api.Value{Kind: api.VMap},
		deep:   f.Type == api.TMessage, // each pair holds one, written or not
		kind:   api.WText,
		lay:    pair,
		join:   overlaid(order),
		byKey:  order,
	}
}

// act tells what is done with a record of a wire kind, nil if that does not go with the field.
func (f *field) act(kind int) act {
	switch kind {
	case f.kind:
		return f.lay
	case api.WText:
		return f.block
	}
	return nil
}

// shows says whether a value of the field is there in a normal tree.
func (f *field) shows(v api.Value) bool {
	return f.explicit || v.Num != 0 || v.Text != "" || len(v.List) > 0
}
