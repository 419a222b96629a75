package strict

import "sigil/api"

// message is what was read of a message so far.
type message struct {
	keep   bool
	tree   api.Value        // without fields, if it is not kept
	number int              // of the field that the last record was of
	key    *api.Value       // of the last pair of that field
	oneofs map[int]struct{} // those of which a member was there
}

// message reads the records of a part as a message of a type.
func (r *reading) message(p *part, name string) api.Value {
	fields, _ := r.plan(name)
	m := &message{keep: r.keep, tree: api.Value{Kind: api.VMessage}}
	for p.More() {
		at := p.place()
		number, kind := p.tag()
		f := fields[number]
		refuse(at, m.unfit(f, kind, p.level))
		m.note(f)
		f.read(p, m)
	}
	return m.tree
}

// unfit says why a record of a field (nil: of none) and of a wire kind may not stand next in a message that lies so deep.
func (m *message) unfit(f *field, kind, level int) api.Errno {
	if f == nil {
		return api.ErrStranger
	}
	_, met := m.oneofs[f.oneof]
	switch {
	case kind != f.kind:
		return api.ErrWire
	case f.number < m.number || f.number == m.number && !f.again:
		return api.ErrOrder
	case met:
		return api.ErrBoth
	case f.deep && level == api.MaxDepth:
		return api.ErrDepth
	}
	return api.OK
}

// note notes that a record of a field is there.
func (m *message) note(f *field) {
	if f.number != m.number {
		m.number, m.key = f.number, nil
	}
	if f.oneof == 0 {
		return
	}
	if m.oneofs == nil { // most messages need none
		m.oneofs = map[int]struct{}{}
	}
	m.oneofs[f.oneof] = struct{}{}
}

// put keeps the one value of a field.
func (m *message) put(number int, v api.Value) {
	if m.keep {
		m.tree.Fields = append(m.tree.Fields, api.Entry{Number: number, Value: v})
	}
}

// add keeps one value more of a field that is a list or a map.
func (m *message) add(number, kind int, v api.Value) {
	if !m.keep {
		return
	}
	last := len(m.tree.Fields) - 1
	if last < 0 || m.tree.Fields[last].Number != number {
		m.put(number, api.Value{Kind: kind})
		last++
	}
	in := &m.tree.Fields[last].Value
	in.List = append(in.List, v)
}
