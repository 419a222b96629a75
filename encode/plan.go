package encode

import "sigil/api"

// plan says how the messages of a type are written: by the number of each field what writes all records of the field.
type plan map[int]writer[*api.Value]

// plan tells the plan of a message type. It is made when the type is first met, and not for the types that its fields name: each of these is asked for when a value of it is written, so that a type may hold itself.
func (e *Encoder) plan(name string) plan {
	e.lock.Lock()
	defer e.lock.Unlock()
	if p, ok := e.plans[name]; ok {
		return p
	}
	m, _ := e.schema.Message(name)
	p := make(plan, len(m.Fields))
	for _, f := range m.Fields {
		p[f.Number] = e.field(f)
	}
	e.plans[m.Name] = p // under the schema's own text: name may have been handed in, and is not kept
	return p
}

// message writes a message of the plan's type, without its length.
func (p plan) message(out []byte, v *api.Value) []byte {
	for i := range v.Fields {
		out = p.entry(out, &v.Fields[i])
	}
	return out
}

// entry writes all records of a field that is there.
func (p plan) entry(out []byte, f *api.Entry) []byte { return p[f.Number](out, &f.Value) }

// field tells what writes all records of a field.
func (e *Encoder) field(f api.Field) writer[*api.Value] {
	value := e.forms(f.Of)[f.Type]
	switch {
	case f.Card == api.CMap:
		inner := both(e.forms("")[f.Key].record(1), value.record(2))
		return each(apart, record(f.Number, api.WText, measured(inner)))
	case f.Card == api.CRepeated && value.kind == api.WText:
		return each(itself, value.record(f.Number))
	case f.Card == api.CRepeated:
		return record(f.Number, api.WText, measured(each(itself, value.write)))
	}
	return value.record(f.Number)
}
