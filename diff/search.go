package diff

import (
	"cmp"
	"slices"

	"sigil/api"
	"sigil/bind"
	"sigil/path"
	"sigil/tree"
)

// search looks for the edits of two normal trees of a type. Its methods say whether the edits are no more, and their paths no longer, than may be; if not, it is over.
type search struct {
	schema *bind.Schema
	name   string
	steps  []api.Step // to where it stands
	edits  []api.Edit
}

// parts says what is asked of the entries of messages, or of the pairs of maps.
type parts[T any] struct {
	order func(x, y *T) int
	step  func(x *T) api.Step
	value func(x *T) *api.Value
	field func(x *T) api.Field // the one that says what the value is
}

// messages looks at two messages of a type.
func (d *search) messages(of string, a, b *api.Value) bool {
	return rows(d, a.Fields, b.Fields, parts[api.Entry]{
		order: func(x, y *api.Entry) int { return cmp.Compare(x.Number, y.Number) },
		step:  func(x *api.Entry) api.Step { return api.Step{Kind: api.SField, Number: x.Number} },
		value: func(x *api.Entry) *api.Value { return &x.Value },
		field: func(x *api.Entry) api.Field {
			f, _ := d.schema.Field(of, x.Number)
			return f
		},
	})
}

// maps looks at two maps of a field.
func (d *search) maps(f api.Field, a, b *api.Value) bool {
	return rows(d, a.List, b.List, parts[api.Value]{
		order: func(x, y *api.Value) int { return tree.Keys(f.Key, x.List[0], y.List[0]) },
		step:  func(x *api.Value) api.Step { return api.Step{Kind: api.SKey, Key: x.List[0]} },
		value: func(x *api.Value) *api.Value { return &x.List[1] },
		field: func(*api.Value) api.Field { return f },
	})
}

// rows looks at the parts of two messages, or of two maps: at those that go ahead of all others.
func rows[T any](d *search, a, b []T, p parts[T]) bool {
	for x, y := range beside(a, b, p.order) {
		if y == nil && !d.within(p.step(x), d.clear) {
			return false
		}
	}
	for x, y := range beside(a, b, p.order) {
		if y == nil {
			continue
		}
		look := func() bool { return d.set(p.value(y)) }
		if x != nil {
			look = func() bool { return d.values(p.field(y), p.value(x), p.value(y)) }
		}
		if !d.within(p.step(y), look) {
			return false
		}
	}
	return true
}

// within looks at what stands one step further.
func (d *search) within(st api.Step, look func() bool) bool {
	d.steps = append(d.steps, st)
	well := look()
	d.steps = d.steps[:len(d.steps)-1]
	return well
}

// values looks at two values of a field, or of the map that it holds. Of two messages that are the same there is nothing to tell, so they are not compared ahead of that.
func (d *search) values(f api.Field, a, b *api.Value) bool {
	switch {
	case b.Kind == api.VMessage:
		return d.messages(f.Of, a, b)
	case b.Kind == api.VMap:
		return d.maps(f, a, b)
	case b.Kind == api.VList:
		return d.lists(a.List, b.List)
	case tree.Equal(*a, *b):
		return true
	}
	return d.set(b)
}

// lists looks at two lists.
func (d *search) lists(a, b []api.Value) bool {
	front, end := shared(a, b, tree.Equal)
	out, in := a[front:len(a)-end], b[front:len(b)-end]
	if len(out)+len(in) == 0 {
		return true
	}
	return d.add(api.Edit{Kind: api.ESplice, At: front, Out: len(out)}, in...)
}

func (d *search) set(v *api.Value) bool { return d.add(api.Edit{Kind: api.ESet}, *v) }

func (d *search) clear() bool { return d.add(api.Edit{Kind: api.EClear}) }

// add tells an edit of where it stands.
func (d *search) add(edit api.Edit, values ...api.Value) bool {
	text, e := path.Print(d.schema, d.name, d.steps)
	if e != api.OK || len(d.edits) == api.MaxEdits {
		return false
	}
	edit.Path = text
	edit.Values = slices.Grow(edit.Values, len(values))
	for i := range values {
		edit.Values = append(edit.Values, owned(&values[i]))
	}
	d.edits = append(d.edits, edit)
	return true
}
