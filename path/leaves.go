package path

import (
	"iter"

	"sigil/api"
	"sigil/bind"
)

// leaves gathers the paths of all that has nothing below it.
type leaves struct {
	schema *bind.Schema
	paths  []string // not more than the tree has values
}

// from gathers those of a value that stands at a spot, text is its own path. False: one is too long.
func (l *leaves) from(v *api.Value, p spot, text []byte) bool {
	// Those below are no shorter.
	if len(text) > api.MaxPath {
		return false
	}
	leaf := true
	for st, in := range below(l.schema, v, p) {
		leaf = false
		if !l.from(in, after(p, st), st.write(text)) {
			return false
		}
	}
	if leaf {
		l.paths = append(l.paths, string(text))
	}
	return true
}

// below tells what hangs on a value right below it, with the steps there.
func below(s *bind.Schema, v *api.Value, p spot) iter.Seq2[step, *api.Value] {
	return func(yield func(step, *api.Value) bool) {
		for i := range v.Fields {
			f, _ := s.Field(p.Of, v.Fields[i].Number)
			if !yield(fieldStep{s, p.Of, f}, &v.Fields[i].Value) {
				return
			}
		}
		for i := range v.List {
			var st step = indexStep{i}
			in := &v.List[i]
			if v.Kind == api.VMap {
				st, in = keyStep{p.Key, in.List[0]}, &in.List[1]
			}
			if !yield(st, in) {
				return
			}
		}
	}
}
