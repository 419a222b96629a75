package shell

import (
	"slices"

	"sigil/api"
	"sigil/bind"
	"sigil/compat"
	"sigil/diff"
	"sigil/digest"
	"sigil/sign"
)

func (s *session) source(g given) string {
	name := g.words[0]
	l, _ := s.sources.Get(name)
	if len(l) >= api.MaxFiles {
		return answer(api.ErrLong)
	}
	l = append(slices.Clip(l), api.Source{Name: g.words[1], Text: g.words[2]})
	s.sources = s.sources.Put(name, l)
	return answer(api.OK, number(len(l)))
}

func (s *session) load(g given) string {
	name := g.words[0]
	l, _ := s.sources.Get(name)
	s.sources = s.sources.Drop(name)
	schema, bad := bind.Load(l)
	if bad.Err != api.OK {
		return answer(bad.Err, number(bad.File), number(bad.At), quoted(bad.Name))
	}
	s.schemas = s.schemas.Put(name, schema)
	return answer(api.OK, number(len(schema.Messages())), number(len(schema.Enums())))
}

func (s *session) texts(g given) string {
	var l []string
	for _, source := range g.schemas[0].Texts() {
		l = append(l, quoted(source.Name), quoted(source.Text))
	}
	return answer(api.OK, l...)
}

func (s *session) types(g given) string {
	return answer(api.OK, quotedAll(g.schemas[0].Messages())...)
}

func (s *session) mark(g given) string {
	return answer(api.OK, digest.Hex(sign.Schema(g.schemas[0])))
}

func (s *session) compat(g given) string {
	b, e := compat.Check(g.schemas[0], g.words[1], g.schemas[1], g.words[3])
	if b.Rule != 0 {
		return joined("break", number(b.Rule), dotted(b.Path))
	}
	return answer(e)
}

func (s *session) changes(g given) string {
	var l []string
	for _, c := range diff.Schemas(g.schemas[0], g.schemas[1]) {
		l = append(l, quoted(diff.Say(c)))
	}
	return answer(api.OK, l...)
}
