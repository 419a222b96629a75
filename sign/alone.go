package sign

import (
	"cmp"
	"slices"
	"strings"

	"sigil/api"
	"sigil/bind"
	"sigil/print"
)

// words are the words of the scalars, by type.
var words = [...]string{
	api.TDouble:   "double",
	api.TFloat:    "float",
	api.TInt32:    "int32",
	api.TInt64:    "int64",
	api.TUint32:   "uint32",
	api.TUint64:   "uint64",
	api.TSint32:   "sint32",
	api.TSint64:   "sint64",
	api.TFixed32:  "fixed32",
	api.TFixed64:  "fixed64",
	api.TSfixed32: "sfixed32",
	api.TSfixed64: "sfixed64",
	api.TBool:     "bool",
	api.TString:   "string",
	api.TBytes:    "bytes",
}

// alone is the text of a message or enum by itself, without what is declared in it. It is a part of a canonical text of the schema, so it is not too long.
func alone(s *bind.Schema, full string) string {
	f, _ := print.Sorted(declaration(s, full))
	text, _ := print.Text(f)
	return text
}

// declaration is the file with just this message or enum.
func declaration(s *bind.Schema, full string) api.File {
	if m, e := s.Message(full); e == api.OK {
		return api.File{Messages: []api.MessageDecl{messageDecl(m)}}
	}
	d, _ := s.Enum(full)
	return api.File{Enums: []api.EnumDecl{{Name: lastName(full), Values: d.Values, Reserved: d.Reserved, Gone: d.Gone}}}
}

func messageDecl(m api.Message) api.MessageDecl {
	d := api.MessageDecl{Name: lastName(m.Name), Oneofs: m.Oneofs, Reserved: m.Reserved, Gone: m.Gone}
	for _, f := range inBlocks(m.Fields, len(m.Oneofs)) {
		d.Fields = append(d.Fields, fieldDecl(f))
	}
	return d
}

// inBlocks tells rising fields with those of each oneof in a row, where the first of them stood, as package print asks for them.
func inBlocks(l []api.Field, oneofs int) []api.Field {
	first := make([]int, oneofs+1)
	block := func(f api.Field) int {
		if f.Oneof == 0 {
			return f.Number
		}
		return first[f.Oneof]
	}
	for _, f := range slices.Backward(l) {
		first[f.Oneof] = f.Number
	}
	return slices.SortedStableFunc(slices.Values(l), func(a, b api.Field) int { return cmp.Compare(block(a), block(b)) })
}

func fieldDecl(f api.Field) api.FieldDecl {
	d := api.FieldDecl{Card: f.Card, Type: typeText(f), Name: f.Name, Number: f.Number, Oneof: f.Oneof}
	if f.Card == api.CMap {
		d.Key = words[f.Key]
	}
	return d
}

// typeText tells how a field's type is written: a message or enum by a dot and its full name.
func typeText(f api.Field) string {
	if f.Of != "" {
		return "." + f.Of
	}
	return words[f.Type]
}

// lastName is a full name without the names of what it is declared in.
func lastName(full string) string { return full[strings.LastIndexByte(full, '.')+1:] }
