package shell

import (
	"sigil/api"
	"sigil/bind"
	"sigil/digest"
	"sigil/sign"
)

// digested is the command that tells a digest of a tree.
func digested(sum func(s *bind.Schema, name string, m api.Value) ([]byte, api.Errno)) action {
	return func(s *session, g given) string {
		m := g.trees[0]
		d, e := sum(m.schema, m.typ, m.value)
		if e != api.OK {
			return answer(e)
		}
		return answer(api.OK, digest.Hex(d))
	}
}

func (s *session) open(g given) string {
	m := g.trees[0]
	p, e := sign.Open(m.schema, m.typ, m.value, g.words[1])
	if e != api.OK {
		return answer(e)
	}
	next := s.store
	next.proofs = next.proofs.with(g.words[2], p, weigh(&p.Value))
	return s.become(next, number(len(p.Rungs)))
}

func (s *session) verify(g given) string {
	root, e := digest.Unhex(g.words[2])
	if e != api.OK {
		return answer(e)
	}
	return answer(sign.Verify(g.schemas[0], g.words[1], root, g.proofs[0]))
}
