package shell

import (
	"sigil/api"
	"sigil/bind"
	"sigil/digest"
	"sigil/registry"
)

func (s *session) register(g given) string {
	version, e := s.registry.Register(g.words[0], g.schemas[0].Texts(), g.words[2])
	if e != api.OK {
		return answer(e)
	}
	return answer(api.OK, number(version))
}

func (s *session) try(g given) string {
	b, e := s.registry.Try(g.words[0], g.schemas[0].Texts(), g.words[2])
	if e != api.OK {
		return answer(e)
	}
	return answer(api.OK, number(b.Rule))
}

func (s *session) rule(g given) string { return answer(s.registry.Rule(g.words[0], g.numbers[0])) }

func (s *session) drop(g given) string { return answer(s.registry.Drop(g.words[0], g.numbers[0])) }

func (s *session) list(given) string {
	var l []string
	for _, told := range s.registry.List() {
		l = append(l, quoted(told.Name), number(told.Rule), number(len(told.Versions)))
	}
	return answer(api.OK, l...)
}

func (s *session) find(g given) string {
	of, e := digest.Unhex(g.words[0])
	if e != api.OK {
		return answer(e)
	}
	places, e := s.registry.Find(of)
	var l []string
	for _, p := range places {
		l = append(l, quoted(p.Subject), number(p.Version))
	}
	return answer(e, l...)
}

func (s *session) read(g given) string {
	subject, reads := g.words[0], g.numbers[1]
	v, e := s.registry.Read(subject, g.numbers[0], reads, g.blobs[0])
	if e != api.OK {
		return answer(e)
	}
	// It has just read: it is there, and its texts load again.
	by, _ := s.registry.Get(subject, reads)
	schema, _ := bind.Load(by.Files)
	return s.newTree(g.words[4], message{schema, by.Type, v})
}

func (s *session) log(g given) string { return s.newBlob(g.words[0], s.registry.Log()) }

func (s *session) reopen(g given) string {
	r, n, e := registry.Open(g.blobs[0])
	if e != api.OK {
		return answer(e)
	}
	s.registry = r
	return answer(api.OK, number(n))
}
