package path

import (
	"sigil/api"
	"sigil/bind"
	"sigil/tree"
)

// refuses tells why a value can't stand there: ErrType, or else ErrNormal. That it is too deep is not looked at.
func (p spot) refuses(s *bind.Schema, v *api.Value) api.Errno {
	switch p.kind() {
	case api.VList, api.VMap:
		return p.refusesAll(s, v)
	case api.VMessage:
		if _, e := tree.Normal(s, p.Of, *v); e != api.ErrDepth {
			return e
		}
		return api.OK
	}
	return typeUnless(isOf(p.Type, v))
}

// refusesAll does so for a list or map with all its values.
func (p spot) refusesAll(s *bind.Schema, v *api.Value) api.Errno {
	if !isPure(v, p.kind()) {
		return api.ErrType
	}
	all := api.OK
	for i := range v.List {
		switch p.refusesOne(s, &v.List[i]) {
		case api.ErrType:
			return api.ErrType
		case api.ErrNormal:
			all = api.ErrNormal
		}
	}
	if p.Card == api.CMap && !rises(p.Key, v.List) {
		return api.ErrNormal
	}
	return all
}

// refusesOne does so for a value of the list, or a pair of the map, that stands there.
func (p spot) refusesOne(s *bind.Schema, v *api.Value) api.Errno {
	if p.Card == api.CRepeated {
		return p.single().refuses(s, v)
	}
	if !isPure(v, api.VPair) || len(v.List) != 2 || !isOf(p.Key, &v.List[0]) {
		return api.ErrType
	}
	return p.single().refuses(s, &v.List[1])
}

// rises says whether the keys of pairs rise, none twice.
func rises(keyType int, pairs []api.Value) bool {
	for i := 1; i < len(pairs); i++ {
		if tree.Keys(keyType, pairs[i-1].List[0], pairs[i].List[0]) >= 0 {
			return false
		}
	}
	return true
}

// typeUnless is ErrType, unless all is well.
func typeUnless(well bool) api.Errno {
	if well {
		return api.OK
	}
	return api.ErrType
}
