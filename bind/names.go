package bind

import (
	"iter"
	"strings"

	"sigil/api"
	"sigil/order"
)

// aPart is the kind of a package part: no type.
const aPart = 0

// thing is what a full name stands for, with that name.
type thing struct {
	kind int // api.TMessage, api.TEnum or aPart
	full string
}

// thing tells what the full name of a message or enum stands for.
func (d declared) thing() thing { return thing{d.kind, d.full} }

// parts tells the package parts of a package's name.
func parts(name string) *order.Map[string, thing] {
	m := order.New[string, thing]()
	for part := range scopes(name) {
		if part != "" {
			m = m.Put(part, thing{aPart, part})
		}
	}
	return m
}

// scopes tells a full name, then what is left of it without its last name, and so on, down to the empty text.
func scopes(full string) iter.Seq[string] {
	return func(yield func(string) bool) {
		for left := full; yield(left) && left != ""; {
			left = outer(left)
		}
	}
}

// outer tells what is left of a full name without its last name.
func outer(full string) string { return full[:max(strings.LastIndexByte(full, '.'), 0)] }

// visible tells of each source what is visible in it: what it and those that it imports declare, and their package parts.
func visible(files []api.File, imports [][]int, types []declared) []*order.Map[string, thing] {
	own := each(files, func(_ int, f api.File) *order.Map[string, thing] { return parts(f.Package) })
	for _, d := range types {
		own[d.file] = own[d.file].Put(d.full, d.thing())
	}
	return each(imports, func(i int, places []int) *order.Map[string, thing] {
		all := own[i]
		for _, place := range places {
			all = all.Join(own[place])
		}
		return all
	})
}

// named tells what a type that is no scalar's word names, of a field in the message of that full name.
func named(names *order.Map[string, thing], message, typ string) (thing, error) {
	if full, ok := strings.CutPrefix(typ, "."); ok {
		return whole(names, full)
	}
	first, _, many := strings.Cut(typ, ".")
	why := errUnknown
	for scope := range scopes(message) {
		t, ok := names.Get(join(scope, first))
		switch {
		case ok && (t.kind != aPart || many):
			return whole(names, join(scope, typ))
		case ok:
			// A farther scope may have a type of that name.
			why = errNoType
		}
	}
	return thing{}, why
}

// whole tells the message or enum of a full name.
func whole(names *order.Map[string, thing], full string) (thing, error) {
	t, ok := names.Get(full)
	switch {
	case !ok:
		return thing{}, errUnknown
	case t.kind == aPart:
		return thing{}, errNoType
	}
	return t, nil
}
