package path

import (
	"sigil/api"
	"sigil/bind"
)

// way is a path that was gone along in a type.
type way struct {
	steps []step
	end   spot // where it stands then
}

// read goes along the text of a path.
func read(s *bind.Schema, name, path string) (way, api.Errno) {
	parts, ok := split(path)
	if !ok {
		return way{}, api.ErrStep
	}
	return along(name, parts, func(p spot, in part) (step, api.Errno) { return p.meant(s, in) })
}

// along goes along a path from what it is made of; taken tells the step that one of these is where it stands, or the fault there.
func along[T any](name string, path []T, taken func(p spot, one T) (step, api.Errno)) (way, api.Errno) {
	w := way{end: top(name)}
	for _, one := range path {
		st, e := taken(w.end, one)
		if e != api.OK {
			return way{}, e
		}
		w.steps = append(w.steps, st)
		w.end = after(w.end, st)
	}
	return w, api.OK
}

// stands tells what stands at the end of steps; nil: nothing does.
func stands(v *api.Value, steps []step) *api.Value {
	for _, st := range steps {
		if v = at(v, st); v == nil {
			return nil
		}
	}
	return v
}

// put tells a value with another one at the end of steps. What is not there on the way comes to be there.
func put(v *api.Value, steps []step, in api.Value) (api.Value, api.Errno) {
	if len(steps) == 0 {
		return in, api.OK
	}
	if st, ok := steps[0].(indexStep); ok && st.index > len(v.List) {
		return api.Value{}, api.ErrIndex
	}
	next := at(v, steps[0])
	if next == nil {
		next = &api.Value{}
	}
	inner, e := put(next, steps[1:], in)
	if e != api.OK {
		return api.Value{}, e
	}
	return with(v, steps[0], inner), api.OK
}

// drop tells a value without what stands at the end of steps. A list or map on the way that is empty then goes too, as with takes it away.
func drop(v *api.Value, steps []step) api.Value {
	switch len(steps) {
	case 0:
		return api.Value{Kind: api.VMessage}
	case 1:
		return without(v, steps[0])
	}
	return with(v, steps[0], drop(at(v, steps[0]), steps[1:]))
}
