package view

import "sigil/api"

// list is a list that has values, a record for each.
type list struct {
	*lens
	field  api.Field
	depth  int // of the message that holds it
	values []record
}

// listed tells the list of a field's records; nil: it has no values. Blocks of numbers are taken to pieces.
func (l *lens) listed(f api.Field, depth int, records []record) held {
	kind, values := l.forms[f.Type].kind, []record(nil)
	for _, r := range records {
		if r.kind == kind {
			values = append(values, r)
			continue
		}
		for p := newPart(r.text); p.More(); {
			values = append(values, p.take(kind))
		}
	}
	if len(values) == 0 {
		return nil
	}
	return list{l, f, depth, values}
}

// at tells the value at an index.
func (l list) at(i int) held { return l.says(l.field, l.depth, l.values[i:i+1]) }

func (l list) next(st api.Step) held {
	if st.Number >= len(l.values) {
		return nil
	}
	return l.at(st.Number)
}

func (l list) check() {
	for i := range l.values {
		l.at(i).check()
	}
}

func (l list) value() api.Value {
	v := api.Value{Kind: api.VList, List: make([]api.Value, len(l.values))}
	for i := range l.values {
		v.List[i] = l.at(i).value()
	}
	return v
}

func (l list) spread() (int, func(i int) (api.Step, held)) {
	return len(l.values), func(i int) (api.Step, held) {
		return api.Step{Kind: api.SIndex, Number: i}, l.at(i)
	}
}
