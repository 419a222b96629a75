package print

import (
	"slices"
	"strings"

	"sigil/api"
	"sigil/parse"
)

// The numbers that have 32 bits.
const (
	least32 = -1 << 31
	most32  = 1<<31 - 1
)

// judge looks whether declarations may be, and counts them. It counts a list ahead of looking into it: so it ends soon, however many and however deep they are.
type judge struct {
	left int // how many more there may be
}

// rightFile says whether declarations have a text, however long.
func rightFile(f api.File) bool {
	j := judge{left: api.MaxDecls}
	return (f.Package == "" || areNames(f.Package)) &&
		j.count(len(f.Imports)+len(f.Messages)+len(f.Enums)) &&
		all(f.Imports, isImport) &&
		all(f.Messages, func(m api.MessageDecl) bool { return j.message(m, 1) }) &&
		all(f.Enums, j.enum)
}

// count says whether there may be n declarations more.
func (j *judge) count(n int) bool {
	j.left -= n
	return j.left >= 0
}

// message looks at a message that is the deep-th of those that lie in one another.
func (j *judge) message(m api.MessageDecl, deep int) bool {
	return deep <= api.MaxDecl &&
		j.count(len(m.Fields)+len(m.Oneofs)+len(m.Messages)+len(m.Enums)+len(m.Reserved)+len(m.Gone)) &&
		parse.Word(m.Name) &&
		all(m.Oneofs, parse.Word) &&
		all(m.Fields, isField) &&
		inOneofs(m.Fields, len(m.Oneofs)) &&
		all(m.Reserved, isRow(1, api.MaxNumber)) &&
		all(m.Gone, parse.Word) &&
		all(m.Messages, func(in api.MessageDecl) bool { return j.message(in, deep+1) }) &&
		all(m.Enums, j.enum)
}

// enum looks at an enum.
func (j *judge) enum(d api.EnumDecl) bool {
	return j.count(len(d.Values)+len(d.Reserved)+len(d.Gone)) &&
		parse.Word(d.Name) &&
		len(d.Values) > 0 &&
		all(d.Values, isValue) &&
		all(d.Reserved, isRow(least32, most32)) &&
		all(d.Gone, parse.Word)
}

// all says whether ok says yes to each of a list.
func all[T any](l []T, ok func(T) bool) bool {
	return !slices.ContainsFunc(l, func(v T) bool { return !ok(v) })
}

// within says whether a number is from least to most.
func within(n, least, most int) bool { return least <= n && n <= most }

// areNames says whether a text is words with dots between, not too long.
func areNames(s string) bool {
	return len(s) <= api.MaxName && all(strings.Split(s, "."), parse.Word)
}

// isType says whether a text is names, perhaps with a dot ahead, not too long with that dot.
func isType(s string) bool {
	return len(s) <= api.MaxName && areNames(strings.TrimPrefix(s, "."))
}

// isImport says whether a text may be imported.
func isImport(s string) bool { return within(len(s), 1, api.MaxName) }

// isRow makes what says whether a row of numbers lies from least to most.
func isRow(least, most int) func(api.Range) bool {
	return func(r api.Range) bool { return least <= r.From && r.From <= r.To && r.To <= most }
}

// isValue says whether a value of an enum may be. Two words begin something else there.
func isValue(v api.EnumValue) bool {
	return parse.Word(v.Name) && v.Name != "option" && v.Name != "reserved" && within(v.Number, least32, most32)
}

// isField says whether a field may be, by itself.
func isField(d api.FieldDecl) bool {
	first, _, _ := strings.Cut(d.Type, ".") // empty, if a dot is ahead
	return parse.Word(d.Name) &&
		within(d.Number, 0, most32) &&
		isType(d.Type) &&
		isCard(d) &&
		!slices.Contains(refused(d), first)
}

// isCard says whether a field's card goes with its key and its oneof.
func isCard(d api.FieldDecl) bool {
	switch d.Card {
	case api.CSingle:
		return d.Key == ""
	case api.COptional, api.CRepeated:
		return d.Key == "" && d.Oneof == 0
	case api.CMap:
		return isType(d.Key) && d.Oneof == 0
	}
	return false
}

// refused tells the words that the first name of a field's type may not be: where the field stands they begin something else, or nothing.
func refused(d api.FieldDecl) []string {
	switch {
	case d.Card == api.CMap:
		return nil
	case d.Card != api.CSingle:
		return []string{"group"}
	case d.Oneof != 0:
		return []string{"option", "group", "optional", "repeated", "required", "oneof", "message", "enum", "reserved"}
	}
	return []string{"message", "enum", "oneof", "reserved", "optional", "repeated", "option", "extend", "extensions", "group", "required"}
}

// inOneofs says whether the fields of each of n oneofs stand in a row, and these rows in the order of the oneofs. So where a row begins, it is that of the next oneof.
func inOneofs(fields []api.FieldDecl, n int) bool {
	here, begun := 0, 0
	for _, d := range fields {
		if d.Oneof != 0 && d.Oneof != here {
			begun++
			if d.Oneof != begun {
				return false
			}
		}
		here = d.Oneof
	}
	return begun == n
}
