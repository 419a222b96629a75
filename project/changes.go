package project

import (
	"strings"

	"sigil/api"
)

// turn makes of a value what is read of it.
type turn func(w *walk, v *api.Value) api.Value

// change makes of an old field's value that of the new field; false: the reading leaves the field out.
type change func(w *walk, v *api.Value) (api.Value, bool)

// changes are what becomes of the fields of an old type, by their numbers.
type changes map[int]change

// changes tells what becomes of the fields where two types meet. They are made when the types first meet, and not those of the messages within: these are asked for when one is read, so that a type may hold itself.
func (p *Plan) changes(t types) changes {
	p.lock.Lock()
	defer p.lock.Unlock()
	if c, ok := p.met[t]; ok {
		return c
	}
	l := p.fields(t)
	c := make(changes, len(l))
	for _, f := range l {
		c[f.old.Number] = p.change(f)
	}
	p.met[t] = c
	return c
}

// change tells what becomes of a field.
func (p *Plan) change(f fields) change {
	value := p.value(f)
	switch {
	case f.gone():
		return func(*walk, *api.Value) (api.Value, bool) { return api.Value{}, false }
	case f.old.Card == api.CMap:
		return always(eachPair(value))
	case f.old.Card == api.CRepeated:
		return always(each(value))
	case f.now.Card == api.CRepeated:
		return always(alone(value))
	case implicit(f.now):
		return unlessZero(value)
	}
	return always(value)
}

// value tells what is read of one value of a field: in a list or a map of each.
func (p *Plan) value(f fields) turn {
	if f.old.Type != api.TMessage {
		return same
	}
	t := types{f.old.Of, f.now.Of}
	return func(w *walk, v *api.Value) api.Value { return p.message(w, t, v) }
}

// message tells the reading of a message.
func (p *Plan) message(w *walk, t types, v *api.Value) api.Value {
	c := p.changes(t)
	out := api.Value{Kind: api.VMessage}
	for i := range v.Fields {
		number := v.Fields[i].Number
		w.down(number)
		if in, ok := c[number](w, &v.Fields[i].Value); ok {
			out.Fields = append(out.Fields, api.Entry{Number: number, Value: in})
		} else {
			w.lose(w.trail)
		}
		w.up()
	}
	return out
}

// same keeps a number or a text. Its memory is not that of what was handed in.
func same(_ *walk, v *api.Value) api.Value {
	return api.Value{Kind: v.Kind, Num: v.Num, Text: strings.Clone(v.Text)}
}

// each turns the values of a list.
func each(value turn) turn {
	return func(w *walk, v *api.Value) api.Value {
		out := api.Value{Kind: v.Kind, List: make([]api.Value, len(v.List))}
		for i := range v.List {
			w.down(i)
			out.List[i] = value(w, &v.List[i])
			w.up()
		}
		return out
	}
}

// eachPair turns the pairs of a map.
func eachPair(value turn) turn {
	return each(func(w *walk, v *api.Value) api.Value {
		key := same(w, &v.List[0])
		w.down(2)
		in := value(w, &v.List[1])
		w.up()
		return api.Value{Kind: api.VPair, List: []api.Value{key, in}}
	})
}

// alone turns a value into the list of it.
func alone(value turn) turn {
	return func(w *walk, v *api.Value) api.Value {
		return api.Value{Kind: api.VList, List: []api.Value{value(w, v)}}
	}
}

// always keeps a field, whatever it holds.
func always(value turn) change {
	return func(w *walk, v *api.Value) (api.Value, bool) { return value(w, v), true }
}

// unlessZero leaves a field out that holds a zero.
func unlessZero(value turn) change {
	return func(w *walk, v *api.Value) (api.Value, bool) {
		if v.Num == 0 && v.Text == "" {
			return api.Value{}, false
		}
		return value(w, v), true
	}
}
