package path

import (
	"cmp"
	"slices"
	"strconv"

	"sigil/api"
	"sigil/bind"
	"sigil/tree"
)

// step is one step of a path, right where it stands in a type. What it does in a value is told by its type.
type step interface {
	told() api.Step           // the step as package api has it
	write(text []byte) []byte // its text behind that of the steps ahead of it
}

// fieldStep goes from a message to a field.
type fieldStep struct {
	schema *bind.Schema
	of     string // the message's type
	field  api.Field
}

// indexStep goes from a list to one of its values.
type indexStep struct{ index int }

// keyStep goes from a map to one of its values.
type keyStep struct {
	typ int
	key api.Value
}

func (st fieldStep) told() api.Step { return api.Step{Kind: api.SField, Number: st.field.Number} }
func (st indexStep) told() api.Step { return api.Step{Kind: api.SIndex, Number: st.index} }
func (st keyStep) told() api.Step   { return api.Step{Kind: api.SKey, Key: st.key} }

func (st fieldStep) write(text []byte) []byte {
	if len(text) > 0 {
		text = append(text, '.')
	}
	return append(text, st.field.Name...)
}

func (st indexStep) write(text []byte) []byte {
	text = append(text, '[')
	text = strconv.AppendInt(text, int64(st.index), 10)
	return append(text, ']')
}

func (st keyStep) write(text []byte) []byte {
	text = append(text, '[')
	text = append(text, keyText(st.typ, &st.key)...)
	return append(text, ']')
}

// place tells where the field's entry stands among those of a message, or would stand, and whether it is there.
func (st fieldStep) place(fields []api.Entry) (int, bool) {
	return slices.BinarySearchFunc(fields, st.field.Number, func(e api.Entry, n int) int { return cmp.Compare(e.Number, n) })
}

// place tells the same of the index's value.
func (st indexStep) place(list []api.Value) (int, bool) { return st.index, st.index < len(list) }

// place tells the same of the key's pair.
func (st keyStep) place(pairs []api.Value) (int, bool) {
	return slices.BinarySearchFunc(pairs, st.key, func(pair, key api.Value) int { return tree.Keys(st.typ, pair.List[0], key) })
}

// after tells where a path stands behind a step that it makes at a spot.
func after(p spot, st step) spot {
	if st, ok := st.(fieldStep); ok {
		return spot{st.field}
	}
	return p.single()
}

// at tells what stands at a step in a value; nil: nothing does.
func at(v *api.Value, st step) *api.Value {
	switch st := st.(type) {
	case fieldStep:
		if i, ok := st.place(v.Fields); ok {
			return &v.Fields[i].Value
		}
	case indexStep:
		if i, ok := st.place(v.List); ok {
			return &v.List[i]
		}
	case keyStep:
		if i, ok := st.place(v.List); ok {
			return &v.List[i].List[1]
		}
	}
	return nil
}

// with tells a value in which another one stands at a step. Of what was not there (the Value with nothing in it) it makes what the step goes from.
func with(v *api.Value, st step, in api.Value) api.Value {
	switch st := st.(type) {
	case fieldStep:
		return api.Value{Kind: api.VMessage, Fields: st.laid(v.Fields, in)}
	case indexStep:
		i, ok := st.place(v.List)
		return api.Value{Kind: api.VList, List: spliced(v.List, i, ok, in)}
	case keyStep:
		i, ok := st.place(v.List)
		return api.Value{Kind: api.VMap, List: spliced(v.List, i, ok, api.Value{Kind: api.VPair, List: []api.Value{st.key, in}})}
	}
	return api.Value{}
}

// without tells a value in which nothing stands at a step where something does.
func without(v *api.Value, st step) api.Value {
	switch st := st.(type) {
	case fieldStep:
		i, ok := st.place(v.Fields)
		return api.Value{Kind: v.Kind, Fields: spliced(v.Fields, i, ok)}
	case indexStep:
		i, ok := st.place(v.List)
		return api.Value{Kind: v.Kind, List: spliced(v.List, i, ok)}
	case keyStep:
		i, ok := st.place(v.List)
		return api.Value{Kind: v.Kind, List: spliced(v.List, i, ok)}
	}
	return api.Value{}
}

// spliced tells a list in which others stand at a place, instead of what is there, if anything is.
func spliced[T any](l []T, i int, there bool, in ...T) []T {
	behind := i
	if there {
		behind++
	}
	return slices.Concat(l[:i], in, l[behind:])
}

// laid tells a message's entries with that of the field, and without the other members of its oneof. A value that is not there in a normal message takes the field away.
func (st fieldStep) laid(fields []api.Entry, in api.Value) []api.Entry {
	stay := slices.DeleteFunc(slices.Clone(fields), func(e api.Entry) bool { return st.rival(e.Number) })
	i, ok := st.place(stay)
	if st.idle(&in) {
		return spliced(stay, i, ok)
	}
	return spliced(stay, i, ok, api.Entry{Number: st.field.Number, Value: in})
}

// rival says whether a number is that of another member of the field's oneof.
func (st fieldStep) rival(number int) bool {
	if st.field.Oneof == 0 || number == st.field.Number {
		return false
	}
	f, _ := st.schema.Field(st.of, number)
	return f.Oneof == st.field.Oneof
}

// idle says whether a value of the field is one that a normal message does not have: an implicit zero, an empty list or map.
func (st fieldStep) idle(v *api.Value) bool {
	switch f := st.field; {
	case f.Card == api.CRepeated || f.Card == api.CMap:
		return len(v.List) == 0
	case f.Card == api.COptional || f.Oneof > 0 || f.Type == api.TMessage:
		return false
	}
	return v.Num == 0 && v.Text == ""
}
