package json

import (
	"slices"

	"sigil/api"
	"sigil/tree"
)

// form is how values are written and read.
type form struct {
	write func(w *writer, v *api.Value)
	read  func(r *reader) api.Value
}

// form tells the form of the values of a type; of is the full name of its message or enum.
func (c *Codec) form(typ int, of string) form {
	switch typ {
	case api.TDouble:
		return bits(8).quotedForm(`"`)
	case api.TFloat:
		return bits(4).quotedForm(`"`)
	case api.TInt64, api.TSint64, api.TSfixed64, api.TUint64, api.TFixed64:
		return whole(typ).quotedForm(`"0`)
	case api.TBool:
		return truth().bareForm("tf")
	case api.TString:
		return itself().quotedForm(`"`)
	case api.TBytes:
		return base64().quotedForm(`"`)
	case api.TEnum:
		return c.enum(of).form()
	case api.TMessage:
		return c.message(of)
	}
	return whole(typ).bareForm(`"0`)
}

// form is the form of the enum's values.
func (d *enum) form() form {
	number := whole(api.TEnum).bareForm("0")
	name := d.code().quotedForm(`"`)
	return form{
		func(w *writer, v *api.Value) {
			if _, ok := d.names[v.Num]; ok {
				name.write(w, v)
				return
			}
			number.write(w, v)
		},
		func(r *reader) api.Value {
			if r.kind() == '"' {
				return name.read(r)
			}
			return number.read(r)
		},
	}
}

// message is the form of the messages of a type.
func (c *Codec) message(of string) form {
	return form{
		func(w *writer, v *api.Value) {
			p := c.plan(of)
			w.row("{", "}", len(v.Fields), func(i int) {
				f := p.numbered[v.Fields[i].Number]
				w.put(f.intro)
				f.write(w, &v.Fields[i].Value)
			})
		},
		func(r *reader) api.Value { return r.message(c.plan(of)) },
	}
}

// list is the form of lists of values.
func list(value form) form {
	return form{
		func(w *writer, v *api.Value) {
			w.row("[", "]", len(v.List), func(i int) { value.write(w, &v.List[i]) })
		},
		func(r *reader) api.Value {
			r.shape("[")
			v := api.Value{Kind: api.VList}
			r.row('[', ']', func() {
				if in := value.read(r); r.keeps() {
					v.List = append(v.List, in)
				}
			})
			return v
		},
	}
}

// dict is the form of maps of values, with keys of a type.
func dict(keyType int, value form) form {
	key := keyCode(keyType)
	return form{
		func(w *writer, v *api.Value) {
			w.row("{", "}", len(v.List), func(i int) {
				pair := v.List[i].List
				w.put(quoted(key.tell(&pair[0])))
				w.put(":")
				value.write(w, &pair[1])
			})
		},
		func(r *reader) api.Value {
			r.shape("{")
			v := api.Value{Kind: api.VMap}
			met := map[known]struct{}{}
			r.row('{', '}', func() {
				k := r.key(key, met)
				in := value.read(r)
				if r.keeps() {
					v.List = append(v.List, api.Value{Kind: api.VPair, List: []api.Value{k, in}})
				}
			})
			slices.SortFunc(v.List, func(a, b api.Value) int { return tree.Keys(keyType, a.List[0], b.List[0]) })
			return v
		},
	}
}

// known is what the keys of one map differ in.
type known struct {
	num  int
	text string
}

// key reads the name of a member as a key that was not met ahead of it.
func (r *reader) key(c code, met map[known]struct{}) api.Value {
	at, name := r.name()
	k, e := c.mean(name)
	if e != api.OK {
		refuse(at, e)
	}
	if _, ok := met[known{k.Num, k.Text}]; ok {
		refuse(at, api.ErrMember)
	}
	met[known{k.Num, k.Text}] = struct{}{}
	return k
}
