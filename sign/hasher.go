package sign

import (
	"sigil/api"
	"sigil/bind"
)

// hasher tells what makes the digests of the values of a schema's types.
type hasher struct {
	schema *bind.Schema
	fields map[string]map[int]digester // by the message types that were met, then by the fields' numbers
}

func newHasher(s *bind.Schema) *hasher {
	return &hasher{schema: s, fields: map[string]map[int]digester{}}
}

// digester tells what makes the digests of values that stand at a spot.
func (h *hasher) digester(p spot) digester {
	if p.isLeaf() {
		return leaf(p.Type)
	}
	return h.level(p).digest
}

// level tells how a message, a list or a map is hashed that stands at a spot.
func (h *hasher) level(p spot) level {
	switch p.Card {
	case api.CRepeated:
		return h.list(p)
	case api.CMap:
		return h.dict(p)
	}
	return h.message(p.Of)
}

// leaf makes the digests of a type's numbers or texts.
func leaf(typ int) digester {
	own := n8(typ)
	if typ == api.TString || typ == api.TBytes {
		return func(v *api.Value) []byte { return hashed(ofLeaf, own, []byte(v.Text)) }
	}
	return func(v *api.Value) []byte { return hashed(ofLeaf, own, n8(v.Num)) }
}

func (h *hasher) message(name string) level {
	return level{
		part: func(v *api.Value, i int) (api.Step, *api.Value) {
			e := &v.Fields[i]
			return api.Step{Kind: api.SField, Number: e.Number}, &e.Value
		},
		inside: func(st api.Step) digester { return h.met(name)[st.Number] },
		leaf:   func(st api.Step, part []byte) []byte { return hashed(ofField, n8(st.Number), part) },
		over:   func(count int, root []byte) []byte { return hashed(ofNode, []byte(name), n8(count), root) },
	}
}

// met tells what makes the digests of a message type's fields. It is asked for when such a message is hashed, not ahead of that: a type may hold itself.
func (h *hasher) met(name string) map[int]digester {
	if l, ok := h.fields[name]; ok {
		return l
	}
	m, _ := h.schema.Message(name)
	l := make(map[int]digester, len(m.Fields))
	for _, f := range m.Fields {
		l[f.Number] = h.digester(spot{f})
	}
	h.fields[name] = l
	return l
}

func (h *hasher) list(p spot) level {
	value := h.digester(p.single())
	return level{
		part: func(v *api.Value, i int) (api.Step, *api.Value) {
			return api.Step{Kind: api.SIndex, Number: i}, &v.List[i]
		},
		inside: func(api.Step) digester { return value },
		leaf:   func(_ api.Step, part []byte) []byte { return part },
		over:   func(count int, root []byte) []byte { return hashed(ofList, n8(count), root) },
	}
}

func (h *hasher) dict(p spot) level {
	key, value := leaf(p.Key), h.digester(p.single())
	return level{
		part: func(v *api.Value, i int) (api.Step, *api.Value) {
			pair := v.List[i].List
			return api.Step{Kind: api.SKey, Key: pair[0]}, &pair[1]
		},
		inside: func(api.Step) digester { return value },
		leaf:   func(st api.Step, part []byte) []byte { return hashed(ofPair, key(&st.Key), part) },
		over:   func(count int, root []byte) []byte { return hashed(ofMap, n8(count), root) },
	}
}
