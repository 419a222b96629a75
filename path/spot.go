package path

import (
	"strconv"

	"sigil/api"
	"sigil/bind"
)

// spot is where a path stands in a type: the field that says what may stand there. A value of a list or map has its field as a single one.
type spot struct{ api.Field }

// top is where a path begins.
func top(name string) spot {
	return spot{api.Field{Card: api.CSingle, Type: api.TMessage, Of: name}}
}

// single is the spot of a value of the list or map that stands there.
func (p spot) single() spot {
	p.Card = api.CSingle
	return p
}

// kind tells of which kind the values are that may stand there: VMessage, VList, VMap; 0 of a number or text.
func (p spot) kind() int {
	switch {
	case p.Card == api.CRepeated:
		return api.VList
	case p.Card == api.CMap:
		return api.VMap
	case p.Type == api.TMessage:
		return api.VMessage
	}
	return 0
}

// meant tells the step that a part of a path's text means there.
func (p spot) meant(s *bind.Schema, in part) (step, api.Errno) {
	kind := p.kind()
	switch {
	case !in.inside && kind == api.VMessage:
		f, none := s.Named(p.Of, in.text)
		return given(fieldStep{s, p.Of, f}, none == api.OK, api.ErrNoField)
	case in.inside && kind == api.VList:
		n, err := strconv.Atoi(in.text)
		return given(indexStep{n}, err == nil && isIndex(n), api.ErrIndex)
	case in.inside && kind == api.VMap:
		key, ok := keyOf(p.Key, in.text)
		return given(keyStep{p.Key, key}, ok, api.ErrKeyText)
	}
	return nil, api.ErrInto
}

// known tells the step that one of package api is there.
func (p spot) known(s *bind.Schema, st api.Step) (step, api.Errno) {
	kind := p.kind()
	switch {
	case !pure(st):
		return nil, api.ErrStep
	case st.Kind == api.SField && kind == api.VMessage:
		f, none := s.Field(p.Of, st.Number)
		return given(fieldStep{s, p.Of, f}, none == api.OK, api.ErrNoField)
	case st.Kind == api.SIndex && kind == api.VList:
		return given(indexStep{st.Number}, isIndex(st.Number), api.ErrIndex)
	case st.Kind == api.SKey && kind == api.VMap:
		return given(keyStep{p.Key, st.Key}, isOf(p.Key, &st.Key), api.ErrKeyText)
	}
	return nil, api.ErrInto
}

// given tells a step, or else why it is none.
func given(st step, ok bool, why api.Errno) (step, api.Errno) {
	if !ok {
		return nil, why
	}
	return st, api.OK
}

// pure says whether a step is of a kind that there is, and has nothing that its kind does not name.
func pure(st api.Step) bool {
	switch st.Kind {
	case api.SField, api.SIndex:
		return isPure(&st.Key, 0)
	case api.SKey:
		return st.Number == 0
	}
	return false
}

// isIndex says whether a list may have a value at an index.
func isIndex(n int) bool { return n >= 0 && n < api.MaxValues }
