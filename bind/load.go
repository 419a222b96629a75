package bind

import (
	"slices"

	"sigil/api"
	"sigil/order"
	"sigil/parse"
)

// declared is a message or an enum, by its kind, with its full name and the place of its source.
type declared struct {
	kind    int // api.TMessage or api.TEnum
	full    string
	file    int
	message api.MessageDecl
	enum    api.EnumDecl
}

// load checks sources, and catches what the rounds throw.
func load(sources []api.Source) (s *Schema, bad api.Fault) {
	defer func() {
		if thrown := recover(); thrown != nil {
			s, bad = nil, thrown.(refusal).fault()
		}
	}()
	return checked(sources), api.Fault{}
}

// checked goes through the rounds; each one throws the first fault that it meets.
func checked(sources []api.Source) *Schema {
	checkNames(sources)
	files := parsed(sources)
	imports := imported(sources, files)
	types := declarations(files)
	for _, d := range types {
		d.check()
	}
	s := bound(types, visible(files, imports, types))
	s.texts = texts(s, files)
	return s
}

// checkNames looks at the sources' names.
func checkNames(sources []api.Source) {
	if len(sources) > api.MaxFiles {
		refuse(errLong, 0, "")
	}
	for i, s := range sources {
		switch {
		case s.Name == "":
			refuse(errName, i, "")
		case len(s.Name) > api.MaxName:
			refuse(errLong, i, "")
		case slices.ContainsFunc(sources[:i], func(ahead api.Source) bool { return ahead.Name == s.Name }):
			refuse(errTwice, i, s.Name)
		}
	}
}

// parsed reads the sources' texts.
func parsed(sources []api.Source) []api.File {
	return each(sources, func(i int, s api.Source) api.File {
		f, bad := parse.Parse(s.Text)
		if bad.Err != api.OK {
			panic(refusal{why: bad.Err, file: i, at: bad.At})
		}
		return f
	})
}

// imported tells of each source the places of those that it imports.
func imported(sources []api.Source, files []api.File) [][]int {
	places := order.New[string, int]()
	for i, s := range sources {
		places = places.Put(s.Name, i)
	}
	return each(files, func(i int, f api.File) []int {
		var l []int
		for _, name := range f.Imports {
			place, ok := places.Get(name)
			if !ok || place == i || slices.Contains(l, place) {
				refuse(errImport, i, name)
			}
			l = append(l, place)
		}
		return l
	})
}

// declarations tells all messages and enums along the sources' walks, and looks at their full names.
func declarations(files []api.File) []declared {
	names := order.New[string, thing]()
	for _, f := range files {
		names = names.Join(parts(f.Package))
	}
	var types []declared
	for i, f := range files {
		walk(f.Package, f.Messages, f.Enums, func(d declared) {
			_, taken := names.Get(d.full)
			switch {
			case len(d.full) > api.MaxName-1:
				refuse(errLong, i, d.full)
			case taken:
				refuse(errTwice, i, d.full)
			case len(types) == api.MaxTypes:
				refuse(errTypes, i, d.full)
			}
			d.file = i
			names = names.Put(d.full, d.thing())
			types = append(types, d)
		})
	}
	return types
}

// walk shows messages and enums that are declared in a scope, a message ahead of what is declared in it.
func walk(scope string, messages []api.MessageDecl, enums []api.EnumDecl, show func(declared)) {
	for _, m := range messages {
		full := join(scope, m.Name)
		show(declared{kind: api.TMessage, full: full, message: m})
		walk(full, m.Messages, m.Enums, show)
	}
	for _, d := range enums {
		show(declared{kind: api.TEnum, full: join(scope, d.Name), enum: d})
	}
}

// join puts a name behind a scope.
func join(scope, name string) string {
	if scope == "" {
		return name
	}
	return scope + "." + name
}

// each tells what f makes of each of a list, and its place.
func each[T, U any](l []T, f func(int, T) U) []U {
	var out []U
	for i, v := range l {
		out = append(out, f(i, v))
	}
	return out
}
