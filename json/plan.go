package json

import "sigil/api"

// plan says how the messages of a type are written and read.
type plan struct {
	numbered map[int]*field    // by number
	named    map[string]*field // by name and by JSON name
}

// field is how a field is written and read.
type field struct {
	form
	number   int
	oneof    int    // 0: none
	explicit bool   // whether its zero may be there
	intro    string // what is written ahead of its value
}

// shows says whether a value of the field is there in a normal tree.
func (f *field) shows(v *api.Value) bool {
	return f.explicit || v.Num != 0 || v.Text != "" || len(v.List) > 0
}

// plan tells the plan of a message type. It is made when the type is first met, and not for the types that its fields name: each of these is asked for when a message of it is met, so that a type may hold itself.
func (c *Codec) plan(name string) *plan {
	c.lock.Lock()
	defer c.lock.Unlock()
	if p, ok := c.plans[name]; ok {
		return p
	}
	m, _ := c.schema.Message(name)
	p := &plan{map[int]*field{}, map[string]*field{}}
	for _, f := range m.Fields {
		planned := c.field(f)
		p.numbered[f.Number] = planned
		// No field has another one's JSON name as its name: both would have the same JSON name, which no schema has.
		p.named[f.Name] = planned
		p.named[f.Json] = planned
	}
	c.plans[m.Name] = p // under the schema's own text: name may have been handed in, and is not kept
	return p
}

// field plans a field.
func (c *Codec) field(f api.Field) *field {
	value := c.form(f.Type, f.Of)
	switch f.Card {
	case api.CRepeated:
		value = list(value)
	case api.CMap:
		value = dict(f.Key, value)
	}
	return &field{
		form:     value,
		number:   f.Number,
		oneof:    f.Oneof,
		explicit: f.Card == api.COptional || f.Oneof > 0 || f.Card == api.CSingle && f.Type == api.TMessage,
		intro:    quoted(f.Json) + ":",
	}
}

// enum is what the values of an enum are named.
type enum struct {
	names   map[int]api.EnumValue // by number
	numbers map[string]int        // by name
}

// enum tells an enum. It is made when a field that is planned first names it.
func (c *Codec) enum(name string) *enum {
	if d, ok := c.enums[name]; ok {
		return d
	}
	declared, _ := c.schema.Enum(name)
	d := &enum{map[int]api.EnumValue{}, map[string]int{}}
	for _, v := range declared.Values {
		d.names[v.Number] = v
		d.numbers[v.Name] = v.Number
	}
	c.enums[name] = d
	return d
}
