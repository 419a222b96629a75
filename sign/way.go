package sign

import (
	"sigil/api"
	"sigil/bind"
	"sigil/digest"
	"sigil/path"
	"sigil/tree"
)

// way is a path with what lies along it in a type.
type way struct {
	steps  []api.Step
	levels []level // of each step that from which it goes
	end    spot
	value  digester // of what stands at the end
}

// along tells the way of a path, or the path's error.
func along(s *bind.Schema, name, text string) (way, api.Errno) {
	steps, e := path.Parse(s, name, text)
	if e != api.OK {
		return way{}, e
	}
	h := newHasher(s)
	w := way{steps: steps, end: top(name)}
	for _, st := range steps {
		w.levels = append(w.levels, h.level(w.end))
		w.end = w.end.after(s, st)
	}
	w.value = h.digester(w.end)
	return w, api.OK
}

// rungs tells those of a tree in which something stands at the end of the way.
func (w way) rungs(v *api.Value) []api.Rung {
	l := make([]api.Rung, len(w.steps))
	for i, st := range w.steps {
		l[i], v = w.levels[i].rung(v, st)
	}
	return l
}

// climbed is the digest of the whole message to which a value at the end of the way comes with rungs, of which there are as many as steps.
func (w way) climbed(v *api.Value, rungs []api.Rung) ([]byte, api.Errno) {
	d := w.value(v)
	for i := len(rungs) - 1; i >= 0; i-- {
		r, st, l := rungs[i], w.steps[i], w.levels[i]
		if st.Kind == api.SIndex && st.Number != r.At {
			return nil, api.ErrProof
		}
		root, e := digest.Rebuild(l.leaf(st, d), r.At, r.Of, r.Beside)
		if e != api.OK {
			return nil, api.ErrProof
		}
		d = l.over(r.Of, root)
	}
	return d, api.OK
}

// around tells in how many messages the end of the way lies.
func (w way) around() int {
	n := 0
	for _, st := range w.steps {
		if st.Kind == api.SField {
			n++
		}
	}
	return n
}

// toField says whether the last step goes to a field, which then can't be there with every value.
func (w way) toField() bool {
	last := len(w.steps) - 1
	return last >= 0 && w.steps[last].Kind == api.SField
}

// refuses tells why a value can't stand at the end of the way in a normal tree that is hashed.
func (w way) refuses(s *bind.Schema, name, text string, v *api.Value) api.Errno {
	// Set asks first whether the value fits, then whether it is normal. What else it refuses is not asked here: it comes of the message without fields, in which nothing stands along the way.
	_, e := path.Set(s, name, api.Value{Kind: api.VMessage}, text, *v)
	switch {
	case e == api.ErrType || e == api.ErrNormal:
		return e
	case w.toField() && w.end.idle(v):
		return api.ErrNormal
	case w.around()+tree.Depth(*v) > api.MaxDepth:
		return api.ErrDepth
	case oversized(v):
		return api.ErrSize
	}
	return api.OK
}
