package shell

import (
	"sigil/api"
	"sigil/bind"
	"sigil/diff"
	"sigil/json"
	"sigil/loose"
	"sigil/path"
	"sigil/project"
	"sigil/tree"
)

func (s *session) json(g given) string {
	schema, typ := g.schemas[0], g.words[2]
	v, bad := json.New(schema).Parse(typ, g.words[3])
	if bad.Err != api.OK {
		return answer(bad.Err, number(bad.At))
	}
	return s.newTree(g.words[0], message{schema, typ, v})
}

func (s *session) show(g given) string {
	m := g.trees[0]
	text, e := json.New(m.schema).Print(m.typ, m.value)
	if e != api.OK {
		return answer(e)
	}
	return answer(api.OK, quoted(text))
}

func (s *session) same(g given) string {
	if tree.Equal(g.trees[0].value, g.trees[1].value) {
		return answer(api.OK, "yes")
	}
	return answer(api.OK, "no")
}

func (s *session) merge(g given) string {
	m := g.trees[0]
	v, _, e := loose.Merge(m.schema, m.typ, m.value, g.trees[1].value)
	return s.likewise(g.words[2], m, v, e)
}

func (s *session) get(g given) string {
	m, at := g.trees[0], g.words[1]
	v, there, e := path.Get(m.schema, m.typ, m.value, at)
	switch {
	case e != api.OK:
		return answer(e)
	case !there:
		return answer(api.OK, "absent")
	}
	switch v.Kind {
	case api.VNum:
		return answer(api.OK, "num", number(v.Num))
	case api.VText:
		return answer(api.OK, "text", quoted(v.Text))
	case api.VList:
		return answer(api.OK, "list", number(len(v.List)))
	case api.VMap:
		return answer(api.OK, "map", number(len(v.List)))
	}
	text, e := json.New(m.schema).Print(m.typeAt(at), v)
	if e != api.OK {
		return answer(e)
	}
	return answer(api.OK, "message", quoted(text))
}

// typeAt tells the type of the message that stands at a path.
func (m message) typeAt(at string) string {
	steps, _ := path.Parse(m.schema, m.typ, at)
	typ := m.typ
	for _, st := range steps {
		// The steps into a list or a map lead to the type that the field has named.
		if st.Kind == api.SField {
			f, _ := m.schema.Field(typ, st.Number)
			typ = f.Of
		}
	}
	return typ
}

func (s *session) clear(g given) string {
	m := g.trees[0]
	v, e := path.Clear(m.schema, m.typ, m.value, g.words[1])
	return s.likewise(g.words[2], m, v, e)
}

// masked is the command that cuts a tree by a mask.
func masked(cut func(s *bind.Schema, name string, m api.Value, mask []string) (api.Value, api.Errno)) action {
	return func(s *session, g given) string {
		m := g.trees[0]
		v, e := cut(m.schema, m.typ, m.value, g.words[2:])
		return s.likewise(g.words[1], m, v, e)
	}
}

func (s *session) leaves(g given) string {
	m := g.trees[0]
	l, e := path.Leaves(m.schema, m.typ, m.value)
	return answer(e, quotedAll(l)...)
}

func (s *session) project(g given) string {
	m, schema, typ := g.trees[0], g.schemas[0], g.words[2]
	p, e := project.New(m.schema, m.typ, schema, typ)
	if e != api.OK {
		return answer(e)
	}
	v, e := p.Do(m.value)
	return s.likewise(g.words[3], message{schema: schema, typ: typ}, v, e)
}

func (s *session) diff(g given) string {
	m := g.trees[0]
	l, e := diff.Trees(m.schema, m.typ, m.value, g.trees[1].value)
	return s.newEdits(g.words[2], l, e)
}

func (s *session) apply(g given) string {
	m := g.trees[0]
	v, e := diff.Apply(m.schema, m.typ, m.value, g.edits[0])
	return s.likewise(g.words[2], m, v, e)
}

func (s *session) undo(g given) string {
	m := g.trees[0]
	l, e := diff.Back(m.schema, m.typ, m.value, g.edits[0])
	return s.newEdits(g.words[2], l, e)
}
