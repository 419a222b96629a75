package bind

import (
	"cmp"
	"math"
	"slices"

	"sigil/api"
	"sigil/order"
)

// bound makes a schema, without its texts, of what is declared right, with what is visible in each source.
func bound(types []declared, visible []*order.Map[string, thing]) *Schema {
	s := &Schema{messages: order.New[string, api.Message](), enums: order.New[string, api.Enum]()}
	for _, d := range types {
		if d.kind == api.TMessage {
			s.messages = s.messages.Put(d.full, d.toldMessage(visible[d.file]))
		} else {
			s.enums = s.enums.Put(d.full, d.toldEnum())
		}
	}
	return s
}

// toldMessage tells a message as the schema does.
func (d declared) toldMessage(names *order.Map[string, thing]) api.Message {
	fields := each(d.message.Fields, func(_ int, f api.FieldDecl) api.Field { return d.toldField(f, names) })
	slices.SortFunc(fields, func(a, b api.Field) int { return cmp.Compare(a.Number, b.Number) })
	return api.Message{
		Name:     d.full,
		Fields:   fields,
		Oneofs:   placed(fields, d.message.Oneofs),
		Reserved: touching(d.message.Reserved),
		Gone:     slices.Sorted(slices.Values(d.message.Gone)),
	}
}

// toldField tells a field as the schema does, but for the place of its oneof.
func (d declared) toldField(f api.FieldDecl, names *order.Map[string, thing]) api.Field {
	t := thing{kind: scalar(f.Type)}
	if t.kind == 0 {
		var why error
		t, why = named(names, d.full, f.Type)
		d.refuseAt(why, f.Name)
	}
	return api.Field{
		Number: f.Number,
		Name:   f.Name,
		Json:   jsonName(f.Name),
		Card:   f.Card,
		Type:   t.kind,
		Of:     t.full,
		Key:    scalar(f.Key),
		Oneof:  f.Oneof,
	}
}

// placed tells the names of oneofs in the order in which sorted fields come to them, and sets the fields' Oneof to the places there.
func placed(fields []api.Field, names []string) []string {
	places := make([]int, len(names)+1)
	var oneofs []string
	for i, f := range fields {
		if f.Oneof == 0 {
			continue
		}
		if places[f.Oneof] == 0 {
			oneofs = append(oneofs, names[f.Oneof-1])
			places[f.Oneof] = len(oneofs)
		}
		fields[i].Oneof = places[f.Oneof]
	}
	return oneofs
}

// toldEnum tells an enum as the schema does.
func (d declared) toldEnum() api.Enum {
	values := slices.Clone(d.enum.Values)
	slices.SortFunc(values, func(a, b api.EnumValue) int { return cmp.Compare(zeroFirst(a.Number), zeroFirst(b.Number)) })
	return api.Enum{
		Name:     d.full,
		Values:   values,
		Reserved: touching(d.enum.Reserved),
		Gone:     slices.Sorted(slices.Values(d.enum.Gone)),
	}
}

// zeroFirst tells what a value is sorted by.
func zeroFirst(n int) int {
	if n == 0 {
		return math.MinInt // ahead of all others
	}
	return n
}

// touching tells rows without a number in common, rising, those that touch as one.
func touching(rows []api.Range) []api.Range {
	var out []api.Range
	for _, r := range byFrom(rows) {
		if last := len(out) - 1; last >= 0 && r.From == out[last].To+1 {
			out[last].To = r.To
			continue
		}
		out = append(out, r)
	}
	return out
}
