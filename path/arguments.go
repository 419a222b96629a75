package path

import (
	"sigil/api"
	"sigil/bind"
	"sigil/tree"
)

// opened looks at the arguments of a call that is handed a path into a tree, and perhaps other trees, in the order that the chapter says; and tells the way that the path goes.
func opened(s *bind.Schema, name string, m api.Value, path string, others ...api.Value) (way, api.Errno) {
	if e := looked(s, name, m, len(path) > api.MaxPath, others...); e != api.OK {
		return way{}, e
	}
	return read(s, name, path)
}

// masked does so for a call that is handed a mask.
func masked(s *bind.Schema, name string, m api.Value, paths []string) (*mask, api.Errno) {
	if e := looked(s, name, m, tooLong(paths)); e != api.OK {
		return nil, e
	}
	return readMask(s, name, paths)
}

// looked tells the first error of the name, the tree that is of that type, a path or mask that is too long, other trees.
func looked(s *bind.Schema, name string, m api.Value, long bool, others ...api.Value) api.Errno {
	trail, e := tree.Normal(s, name, m)
	if unread(trail, e) {
		return e
	}
	if long {
		return api.ErrLong
	}
	for _, v := range others {
		// Of these nothing else is asked here: of what type they must be says the path.
		if trail, e := tree.Typed(s, name, v); unread(trail, e) {
			return e
		}
	}
	return e
}

// unread says whether an error of package tree is one ahead of those of the tree's content: of the name, or by P6. (The ErrDepth of a 65th message has a trail, that of P6 has none.)
func unread(trail []int, e api.Errno) bool {
	return e == api.ErrLong || e == api.ErrName || e == api.ErrDepth && len(trail) == 0
}
