package bind

import (
	"strings"

	"sigil/api"
	"sigil/order"
	"sigil/print"
)

// texts tells the canonical texts of a schema, whose messages and enums stand where the files have them.
func texts(s *Schema, files []api.File) []api.Source {
	packages := order.New[string, api.File]()
	for _, f := range files {
		if len(f.Messages)+len(f.Enums) == 0 {
			continue
		}
		all, _ := packages.Get(f.Package)
		all.Package = f.Package
		all.Messages = append(all.Messages, s.messageDecls(f.Package, f.Messages)...)
		all.Enums = append(all.Enums, s.enumDecls(f.Package, f.Enums)...)
		packages = packages.Put(f.Package, all)
	}
	var l []api.Source
	for name, f := range packages.All() {
		f.Imports = s.importsOf(name, f.Messages)
		text, e := canonical(f)
		if e != api.OK {
			refuse(errLong, 0, name)
		}
		l = append(l, api.Source{Name: sourceName(name), Text: text})
	}
	return l
}

// canonical writes declarations in the one order.
func canonical(f api.File) (string, api.Errno) {
	f, e := print.Sorted(f)
	if e != api.OK {
		return "", e
	}
	return print.Text(f)
}

// sourceName tells the name of a package's source: a source has no empty name.
func sourceName(name string) string {
	if name == "" {
		return "."
	}
	return name
}

// messageDecls tells the declarations of messages, as the schema tells them.
func (s *Schema) messageDecls(scope string, l []api.MessageDecl) []api.MessageDecl {
	return each(l, func(_ int, m api.MessageDecl) api.MessageDecl {
		full := join(scope, m.Name)
		told, _ := s.messages.Get(full)
		return api.MessageDecl{
			Name:     m.Name,
			Fields:   fieldDecls(told.Fields),
			Oneofs:   told.Oneofs,
			Messages: s.messageDecls(full, m.Messages),
			Enums:    s.enumDecls(full, m.Enums),
			Reserved: told.Reserved,
			Gone:     told.Gone,
		}
	})
}

// enumDecls tells the declarations of enums, as the schema tells them.
func (s *Schema) enumDecls(scope string, l []api.EnumDecl) []api.EnumDecl {
	return each(l, func(_ int, d api.EnumDecl) api.EnumDecl {
		told, _ := s.enums.Get(join(scope, d.Name))
		return api.EnumDecl{Name: d.Name, Values: told.Values, Reserved: told.Reserved, Gone: told.Gone}
	})
}

// fieldDecls tells the declarations of sorted fields, those of a oneof in a row. The oneofs' places rise, so one above all that were met is met for the first time.
func fieldDecls(l []api.Field) []api.FieldDecl {
	var out []api.FieldDecl
	met := 0
	for i, f := range l {
		switch {
		case f.Oneof == 0:
			out = append(out, fieldDecl(f))
		case f.Oneof > met:
			met = f.Oneof
			for _, other := range l[i:] {
				if other.Oneof == met {
					out = append(out, fieldDecl(other))
				}
			}
		}
	}
	return out
}

// fieldDecl tells the declaration of a field.
func fieldDecl(f api.Field) api.FieldDecl {
	d := api.FieldDecl{Card: f.Card, Type: "." + f.Of, Name: f.Name, Number: f.Number, Oneof: f.Oneof}
	if f.Of == "" {
		d.Type = word(f.Type)
	}
	if f.Card == api.CMap {
		d.Key = word(f.Key)
	}
	return d
}

// word tells the word of a scalar's type.
func word(t int) string { return scalars[t-api.TDouble] }

// importsOf tells the names of the sources of all other packages of which a type is named in a package's declarations.
func (s *Schema) importsOf(name string, l []api.MessageDecl) []string {
	others := order.New[string, int]()
	walk(name, l, nil, func(d declared) {
		for _, f := range d.message.Fields {
			if full, ok := strings.CutPrefix(f.Type, "."); ok {
				if other := s.packageOf(full); other != name {
					others = others.Put(sourceName(other), 0)
				}
			}
		}
	})
	return others.Keys()
}

// packageOf tells the package of a message or enum: the first of the scopes around it that is no message.
func (s *Schema) packageOf(full string) string {
	for {
		full = outer(full)
		if _, ok := s.messages.Get(full); !ok {
			return full
		}
	}
}
