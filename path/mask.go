package path

import (
	"slices"

	"sigil/api"
	"sigil/bind"
)

// mask is what a mask names of a message.
type mask struct {
	whole bool          // all of it
	rests map[int]*mask // by the fields' numbers: what it names of their messages
}

// tooLong says whether a mask has more paths, or a path more bytes, than may be.
func tooLong(paths []string) bool {
	return len(paths) > api.MaxMask || slices.ContainsFunc(paths, func(path string) bool { return len(path) > api.MaxPath })
}

// readMask reads the paths of a mask.
func readMask(s *bind.Schema, name string, paths []string) (*mask, api.Errno) {
	m := newMask()
	for _, path := range paths {
		words, ok := split(path)
		if !ok || slices.ContainsFunc(words, func(in part) bool { return in.inside }) {
			return nil, api.ErrMask
		}
		// A word behind a list or map goes on in each of its values.
		w, e := along(name, words, func(p spot, in part) (step, api.Errno) { return p.single().meant(s, in) })
		if e != api.OK {
			return nil, e
		}
		m.add(w.steps)
	}
	return m, api.OK
}

func newMask() *mask { return &mask{rests: map[int]*mask{}} }

// add takes in a path.
func (m *mask) add(steps []step) {
	for _, st := range steps {
		number := st.told().Number
		if m.rests[number] == nil {
			m.rests[number] = newMask()
		}
		m = m.rests[number]
	}
	m.whole = true
}

// keep tells a message with what the mask names alone.
func (m *mask) keep(v api.Value) api.Value {
	if m.whole {
		return v
	}
	out := api.Value{Kind: api.VMessage}
	for _, e := range v.Fields {
		if rest := m.rests[e.Number]; rest != nil {
			out.Fields = append(out.Fields, api.Entry{Number: e.Number, Value: changed(e.Value, rest.keep)})
		}
	}
	return out
}

// strip tells a message without what the mask names.
func (m *mask) strip(v api.Value) api.Value {
	out := api.Value{Kind: api.VMessage}
	if m.whole {
		return out
	}
	for _, e := range v.Fields {
		rest := m.rests[e.Number]
		switch {
		case rest == nil:
			out.Fields = append(out.Fields, e)
		case !rest.whole:
			out.Fields = append(out.Fields, api.Entry{Number: e.Number, Value: changed(e.Value, rest.strip)})
		}
	}
	return out
}

// changed tells a field's value in which each message is changed: the value itself, or those of the list or map that it is.
func changed(v api.Value, change func(v api.Value) api.Value) api.Value {
	if v.Kind == api.VMessage {
		return change(v)
	}
	v.List = slices.Clone(v.List)
	for i := range v.List {
		v.List[i] = changed(v.List[i], change)
	}
	return v
}
