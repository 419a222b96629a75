package shell

import (
	"sigil/api"
	"sigil/bind"
	"sigil/digest"
	"sigil/encode"
	"sigil/loose"
	"sigil/stream"
)

func (s *session) encode(g given) string {
	m := g.trees[0]
	b, e := encode.New(m.schema).Encode(m.typ, m.value)
	if e != api.OK {
		return answer(e)
	}
	return s.newBlob(g.words[1], b)
}

func (s *session) hex(g given) string {
	b, e := digest.Unhex(g.words[1])
	if e != api.OK {
		return answer(e)
	}
	return s.newBlob(g.words[0], b)
}

func (s *session) bytes(g given) string { return s.newBlob(g.words[0], []byte(g.words[1])) }

func (s *session) dump(g given) string {
	if len(g.blobs[0]) == 0 {
		return answer(api.OK)
	}
	return answer(api.OK, digest.Hex(g.blobs[0]))
}

// decoded is the command that reads a blob as a tree.
func decoded(decode func(s *bind.Schema, name string, b []byte) (api.Value, int, api.Errno)) action {
	return func(s *session, g given) string {
		schema, typ := g.schemas[0], g.words[2]
		v, at, e := decode(schema, typ, g.blobs[0])
		if e != api.OK {
			return answer(e, number(at))
		}
		return s.newTree(g.words[3], message{schema, typ, v})
	}
}

func (s *session) canon(g given) string {
	b, at, e := loose.Canonical(g.schemas[0], g.words[2], g.blobs[0])
	if e != api.OK {
		return answer(e, number(at))
	}
	return s.newBlob(g.words[3], b)
}

func (s *session) pack(g given) string {
	l := make([]api.Value, len(g.trees))
	for i, m := range g.trees {
		l[i] = m.value
	}
	h := api.Head{Sources: g.schemas[0].Texts(), Type: g.words[2], Per: g.numbers[0]}
	b, at, e := stream.Pack(h, l)
	if e != api.OK {
		return answer(e, number(at))
	}
	return s.newBlob(g.words[0], b)
}

func (s *session) unpack(g given) string {
	b := g.blobs[0]
	if outweighs(b) {
		return answer(api.ErrLong)
	}
	l, hurts, e := stream.Read(b)
	if e != api.OK {
		return answer(e)
	}
	h, _, _ := stream.Look(b)
	schema, bad := bind.Load(h.Sources)
	if bad.Err != api.OK {
		return answer(bad.Err)
	}
	next := s.store
	for i, v := range l {
		name := g.words[1] + "." + number(i)
		next.trees = next.trees.with(name, message{schema, h.Type, v}, weigh(&v))
	}
	return s.become(next, number(len(l)), number(len(hurts)))
}

// outweighs says whether the values of a stream alone are more than the store has room for. It reads no more of them than it must: a stream may hold far more.
func outweighs(b []byte) bool {
	weight := 0
	all, e := stream.Each(b)
	if e != api.OK {
		return false
	}
	for _, v := range all {
		weight += weigh(&v)
		if weight > api.MaxValues {
			return true
		}
	}
	return false
}

func (s *session) mend(g given) string {
	b, hurts, e := stream.Mend(g.blobs[0])
	if e != api.OK {
		return answer(e)
	}
	return s.newBlob(g.words[1], b, number(len(hurts)))
}
