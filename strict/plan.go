package strict

import (
	"sigil/api"
	"sigil/bind"
	"sigil/tree"
)

// reading is what one call has: whether the tree is kept, and what it has met of the schema.
type reading struct {
	schema *bind.Schema
	keep   bool
	forms  [api.TMessage + 1]form
	plans  map[string]plan // by the full names of the message types that were met
}

func newReading(s *bind.Schema, keep bool) *reading {
	r := &reading{schema: s, keep: keep, plans: map[string]plan{}}
	r.forms = r.table()
	return r
}

// plan says how the messages of a type are read, by the number of each field.
type plan map[int]*field

// field is how the records of a field are read.
type field struct {
	number, kind, oneof int
	again               bool // whether one may stand behind another
	deep                bool // whether a message stands in each
	read                func(p *part, m *message)
}

// plan tells the plan of a message type, or the error of its name. It is made when the type is first met, and not for the types that its fields name: each of these is asked for when a message of it is read, so that a type may hold itself.
func (r *reading) plan(name string) (plan, api.Errno) {
	if fields, ok := r.plans[name]; ok {
		return fields, api.OK
	}
	m, e := r.schema.Message(name)
	if e != api.OK {
		return nil, e
	}
	fields := make(plan, len(m.Fields))
	for _, f := range m.Fields {
		fields[f.Number] = r.field(f)
	}
	r.plans[name] = fields
	return fields, api.OK
}

// field plans how a field's records are read.
func (r *reading) field(f api.Field) *field {
	value := r.forms[f.Type]
	out := &field{number: f.Number, kind: value.kind, oneof: f.Oneof, deep: f.Type == api.TMessage}
	switch {
	case f.Card == api.CMap:
		out.kind, out.again, out.read = api.WText, true, r.pairs(f)
	case f.Card == api.CRepeated && value.kind == api.WText:
		out.again, out.read = true, func(p *part, m *message) { m.add(f.Number, api.VList, value.read(p, f.Of)) }
	case f.Card == api.CRepeated:
		out.kind, out.read = api.WText, r.block(f)
	default:
		out.read = r.single(f)
	}
	return out
}

// single reads the one value of a field.
func (r *reading) single(f api.Field) func(p *part, m *message) {
	value := r.forms[f.Type]
	implicit := f.Card == api.CSingle && f.Oneof == 0 && f.Type != api.TMessage
	return func(p *part, m *message) {
		at := p.place()
		v := value.read(p, f.Of)
		if implicit && v.Num == 0 && v.Text == "" {
			refuse(at, api.ErrZero)
		}
		m.put(f.Number, v)
	}
}

// block reads the numbers of a list, one behind the other.
func (r *reading) block(f api.Field) func(p *part, m *message) {
	value := r.forms[f.Type]
	return func(p *part, m *message) {
		at := p.place()
		in := p.span(p.level)
		if !in.More() {
			refuse(at, api.ErrEmpty)
		}
		for in.More() {
			m.add(f.Number, api.VList, value.read(in, f.Of))
		}
	}
}

// pairs reads one pair of a map.
func (r *reading) pairs(f api.Field) func(p *part, m *message) {
	key, value := r.forms[f.Key], r.forms[f.Type]
	return func(p *part, m *message) {
		in := p.span(p.level)
		in.expect(1, key.kind)
		at := in.place()
		k := key.read(in, "")
		if m.key != nil && tree.Keys(f.Key, *m.key, k) >= 0 {
			refuse(at, api.ErrKeys)
		}
		m.key = &k
		in.expect(2, value.kind)
		v := value.read(in, f.Of)
		if in.More() {
			refuse(in.place(), api.ErrPair)
		}
		if m.keep {
			m.add(f.Number, api.VMap, api.Value{Kind: api.VPair, List: []api.Value{k, v}})
		}
	}
}
