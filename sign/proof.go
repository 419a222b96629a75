package sign

import (
	"sigil/api"
	"sigil/bind"
	"sigil/path"
	"sigil/tree"
)

// digestLen is how many bytes a digest has.
const digestLen = 32

// opened is the proof of what stands at a path.
func opened(s *bind.Schema, name string, m api.Value, text string) (api.Proof, api.Errno) {
	v, there, e := path.Get(s, name, m, text)
	if e != api.OK {
		return api.Proof{}, e
	}
	if !there {
		return api.Proof{}, api.ErrNothing
	}
	w, _ := along(s, name, text)
	printed, e := path.Print(s, name, w.steps)
	if e != api.OK {
		return api.Proof{}, e
	}
	if oversized(&m) {
		return api.Proof{}, api.ErrSize
	}
	return api.Proof{Path: printed, Value: v, Rungs: w.rungs(&m)}, api.OK
}

// looked tells the first error of the arguments of Verify, each by itself, but for the path's content.
func looked(s *bind.Schema, name string, root []byte, p api.Proof) api.Errno {
	if _, e := s.Message(name); e != api.OK {
		return e
	}
	if len(root) != digestLen {
		return api.ErrProof
	}
	if len(p.Path) > api.MaxPath {
		return api.ErrLong
	}
	// Of what type the value must be says the path: here P6 alone is asked. (The ErrDepth of a 65th message has a trail, that of P6 has none.)
	if trail, e := tree.Typed(s, name, p.Value); e == api.ErrLong || e == api.ErrDepth && len(trail) == 0 {
		return e
	}
	if len(p.Rungs) > api.MaxPath {
		return api.ErrLong
	}
	return api.OK
}

// proved is the digest of the whole message to which a proof comes.
func proved(s *bind.Schema, name string, p api.Proof) ([]byte, api.Errno) {
	w, e := along(s, name, p.Path)
	if e != api.OK {
		return nil, e
	}
	if len(p.Rungs) != len(w.steps) {
		return nil, api.ErrProof
	}
	if e := w.refuses(s, name, p.Path, &p.Value); e != api.OK {
		return nil, e
	}
	return w.climbed(&p.Value, p.Rungs)
}
