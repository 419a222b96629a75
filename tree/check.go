package tree

import (
	"slices"

	"sigil/api"
	"sigil/bind"
)

// walk goes through a tree once, and notes the first place of each error. Neither ErrNormal nor ErrDepth can be at the top, so that an empty trail says that there is none.
type walk struct {
	schema *bind.Schema
	trail  []int // of where it stands
	normal []int // of the first ErrNormal
	depth  []int // of the first ErrDepth
}

// checked tells the error that a call answers of its arguments, and its trail. ErrNormal is one where strict says so.
func checked(s *bind.Schema, name string, v *api.Value, strict bool) ([]int, api.Errno) {
	// No field has the number 0. (Message would answer copies of all fields, which are too many where each of many small trees is asked for.)
	if _, e := s.Field(name, 0); e != api.ErrArg {
		return nil, e
	}
	if e := refused(v); e != api.OK {
		return nil, e
	}
	w := walk{schema: s}
	p := top(name, v)
	switch {
	case !p.fits() || !w.inside(p, 1):
		return w.trail, api.ErrType
	case strict && len(w.normal) > 0:
		return w.normal, api.ErrNormal
	case len(w.depth) > 0:
		return w.depth, api.ErrDepth
	}
	return nil, api.OK
}

// inside goes through what hangs on a value that fits, on whose way from the top lie so many messages. It says whether all of it fits; else the trail is that of the first value that does not.
func (w *walk) inside(p spot, messages int) bool {
	var ahead row
	for i := range parts(p.v) {
		q := within(w.schema, p, i)
		w.trail = append(w.trail, step(p.v, i))
		if !q.fits() {
			return false
		}
		if len(w.normal) == 0 && !ahead.admits(p, q) {
			w.normal = slices.Clone(w.trail)
		}
		below := messages
		if q.v.Kind == api.VMessage {
			below++
		}
		if below > api.MaxDepth && len(w.depth) == 0 {
			w.depth = slices.Clone(w.trail)
		}
		if !w.inside(q, below) {
			return false
		}
		w.trail = w.trail[:len(w.trail)-1]
	}
	return true
}

// row is what stood ahead, in a message or in a map.
type row struct {
	number int
	oneofs []int
	key    *api.Value
}

// admits says whether a part of a value may stand behind what stood ahead in a normal tree, and takes it in.
func (r *row) admits(p, q spot) bool {
	switch p.v.Kind {
	case api.VMessage:
		return r.entry(q)
	case api.VMap:
		return r.pair(p.field.Key, q.v)
	}
	return true
}

func (r *row) entry(q spot) bool {
	f := q.field
	if f.Number <= r.number || f.Oneof > 0 && slices.Contains(r.oneofs, f.Oneof) || q.idle() {
		return false
	}
	r.number = f.Number
	if f.Oneof > 0 {
		r.oneofs = append(r.oneofs, f.Oneof)
	}
	return true
}

func (r *row) pair(keyType int, pair *api.Value) bool {
	last := r.key
	r.key = &pair.List[0]
	return last == nil || compareKeys(keyType, last, r.key) < 0
}
