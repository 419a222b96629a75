package diff

import (
	"sigil/api"
	"sigil/bind"
	"sigil/tree"
)

// normal tells the first error of the name, and of two trees that must be normal ones of that type.
func normal(s *bind.Schema, name string, a, b api.Value) api.Errno {
	trail, first := tree.Normal(s, name, a)
	if unread(trail, first) {
		return first
	}
	trail, second := tree.Normal(s, name, b)
	if unread(trail, second) || first == api.OK {
		return second
	}
	return first
}

// looked tells the first error of the name, of a tree that must be a normal one of that type, and of edits by themselves.
func looked(s *bind.Schema, name string, a api.Value, l []api.Edit, acts map[int]kind) api.Errno {
	trail, e := tree.Normal(s, name, a)
	if unread(trail, e) {
		return e
	}
	if len(l) > api.MaxEdits {
		return api.ErrLong
	}
	for _, edit := range l {
		if !right(edit, acts) {
			return api.ErrEdit
		}
		for _, v := range edit.Values {
			// Of these nothing else is asked here: of what type they must be says the path.
			if trail, bad := tree.Typed(s, name, v); unread(trail, bad) {
				return bad
			}
		}
	}
	return e
}

// unread says whether an error of package tree is one ahead of those of the tree's content: of the name, or by P6. (The ErrDepth of a 65th message has a trail, that of P6 has none.)
func unread(trail []int, e api.Errno) bool {
	return e == api.ErrLong || e == api.ErrName || e == api.ErrDepth && len(trail) == 0
}
