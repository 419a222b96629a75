package view

import (
	"slices"

	"sigil/api"
	"sigil/path"
)

// ask goes along a path, and does something with what stands there, nil if nothing does. Whether it may be asked of what the path leads to, by its type, is said ahead of all that lies in the bytes.
func (v *View) ask(p string, may func(f api.Field) api.Errno, do func(h held)) api.Errno {
	steps, e := path.Parse(v.schema, v.of, p)
	if e != api.OK {
		return e
	}
	if e := may(v.leads(steps)); e != api.OK {
		return e
	}
	return caught(func() { do(v.along(steps)) }).err
}

// leads tells where steps lead to by the type: the field that says what may stand there. A value of a list or map has its field as a single one.
func (m message) leads(steps []api.Step) api.Field {
	f := api.Field{Card: api.CSingle, Type: api.TMessage, Of: m.of}
	for _, st := range steps {
		if st.Kind == api.SField {
			f, _ = m.schema.Field(f.Of, st.Number)
		} else {
			f.Card = api.CSingle
		}
	}
	return f
}

// along tells what stands at the end of steps.
func (m message) along(steps []api.Step) held {
	var h held = m
	for _, st := range steps {
		if h = h.next(st); h == nil {
			return nil
		}
	}
	return h
}

// anything is asked of all that a path may lead to.
func anything(api.Field) api.Errno { return api.OK }

// ofMany is asked of lists and maps alone.
func ofMany(f api.Field) api.Errno {
	if f.Card == api.CRepeated || f.Card == api.CMap {
		return api.OK
	}
	return api.ErrWhole
}

// ofMessage is asked of a message alone.
func ofMessage(f api.Field) api.Errno {
	if f.Type == api.TMessage && ofMany(f) != api.OK {
		return api.OK
	}
	return api.ErrNoMessage
}

// spread tells how many values a list or a map has, and each of them with its step; of nothing none.
func spread(h held) (int, func(i int) (api.Step, held)) {
	if l, ok := h.(many); ok {
		return l.spread()
	}
	return 0, nil
}

// contentOf tells the pieces of a message, one behind the other; of all else there are none.
func contentOf(h held) ([]byte, bool) {
	if m, ok := h.(message); ok {
		return slices.Concat(m.pieces...), true
	}
	return nil, false
}

// viewOf is a view of a message; of all else there is none.
func viewOf(h held) *View {
	if m, ok := h.(message); ok {
		return &View{m.owned()}
	}
	return nil
}
