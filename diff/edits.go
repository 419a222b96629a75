package diff

import (
	"slices"
	"strings"

	"sigil/api"
	"sigil/bind"
	"sigil/path"
)

// base is what an edit is done on: a normal tree of a type.
type base struct {
	schema *bind.Schema
	name   string
	tree   api.Value
}

// kind is what there is to say of a kind of edits.
type kind struct {
	right func(edit api.Edit) bool                           // whether one has what it must have, and nothing else
	do    func(b base, edit api.Edit) (api.Value, api.Errno) // the tree behind one
}

// kinds are the kinds of edits.
func kinds() map[int]kind {
	return map[int]kind{
		api.ESet: {
			right: func(edit api.Edit) bool { return len(edit.Values) == 1 && edit.At == 0 && edit.Out == 0 },
			do:    base.set,
		},
		api.EClear: {
			right: func(edit api.Edit) bool { return len(edit.Values) == 0 && edit.At == 0 && edit.Out == 0 },
			do:    base.clear,
		},
		api.ESplice: {
			right: func(edit api.Edit) bool { return edit.At >= 0 && edit.Out >= 0 },
			do:    base.splice,
		},
	}
}

// right says whether an edit is right by itself.
func right(edit api.Edit, acts map[int]kind) bool {
	act, ok := acts[edit.Kind]
	return ok && len(edit.Path) <= api.MaxPath && act.right(edit)
}

func (b base) set(edit api.Edit) (api.Value, api.Errno) {
	return path.Set(b.schema, b.name, b.tree, edit.Path, edit.Values[0])
}

func (b base) clear(edit api.Edit) (api.Value, api.Errno) {
	v, e := path.Clear(b.schema, b.name, b.tree, edit.Path)
	if e == api.ErrAbsent {
		e = api.ErrBase
	}
	return v, e
}

func (b base) splice(edit api.Edit) (api.Value, api.Errno) {
	steps, e := path.Parse(b.schema, b.name, edit.Path)
	if e != api.OK {
		return api.Value{}, e
	}
	f := b.field(steps)
	if f.Card != api.CRepeated {
		return api.Value{}, api.ErrBase
	}
	around, ok, _ := path.Get(b.schema, b.name, b.tree, upper(edit.Path))
	l := listAt(around, f.Number)
	// Not their sum, which may run over.
	if !ok || edit.At > len(l) || edit.Out > len(l)-edit.At {
		return api.Value{}, api.ErrBase
	}
	l = slices.Concat(l[:edit.At], edit.Values, l[edit.At+edit.Out:])
	return path.Set(b.schema, b.name, b.tree, edit.Path, api.Value{Kind: api.VList, List: l})
}

// field tells the field to which the last of right steps goes; of card 0, or single, where it goes to none.
func (b base) field(steps []api.Step) api.Field {
	f := api.Field{Of: b.name}
	for _, st := range steps {
		if st.Kind == api.SField {
			f, _ = b.schema.Field(f.Of, st.Number)
		} else {
			f.Card = api.CSingle
		}
	}
	return f
}

// upper is a path without its last step, which is a field's. (Steps are not written anew: their text may be too long where this one is not.)
func upper(text string) string {
	return text[:max(0, strings.LastIndexByte(text, '.'))]
}

// listAt tells the list that a message has at a number, an empty one if it has none.
func listAt(m api.Value, number int) []api.Value {
	for _, in := range m.Fields {
		if in.Number == number {
			return in.Value.List
		}
	}
	return nil
}
