package print

import (
	"cmp"
	"math"
	"slices"
	"strings"

	"sigil/api"
)

// each tells what f makes of each of a list.
func each[T, U any](l []T, f func(T) U) []U {
	var out []U
	for _, v := range l {
		out = append(out, f(v))
	}
	return out
}

// sortedBy tells a copy of a list in the rising order of what key tells of each; alike ones stay in their order.
func sortedBy[T any, K cmp.Ordered](l []T, key func(T) K) []T {
	out := slices.Clone(l)
	slices.SortStableFunc(out, func(a, b T) int { return cmp.Compare(key(a), key(b)) })
	return out
}

// joined tells a list in which neighbours are one where join says so, from the left: one that was joined is held against the next one.
func joined[T any](l []T, join func(a, b T) (T, bool)) []T {
	var out []T
	for _, v := range l {
		if last := len(out) - 1; last >= 0 {
			if both, ok := join(out[last], v); ok {
				out[last] = both
				continue
			}
		}
		out = append(out, v)
	}
	return out
}

// sortedFile tells right declarations in the one order, in new memory.
func sortedFile(f api.File) api.File {
	return api.File{
		Package:  strings.Clone(f.Package),
		Imports:  sortedTexts(f.Imports),
		Messages: sortedMessages(f.Messages),
		Enums:    sortedEnums(f.Enums),
	}
}

func sortedTexts(l []string) []string {
	return sortedBy(each(l, strings.Clone), func(s string) string { return s })
}

func sortedMessages(l []api.MessageDecl) []api.MessageDecl {
	return sortedBy(each(l, sortedMessage), func(m api.MessageDecl) string { return m.Name })
}

func sortedMessage(m api.MessageDecl) api.MessageDecl {
	fields, oneofs := sortedFields(m.Fields, m.Oneofs)
	return api.MessageDecl{
		Name:     strings.Clone(m.Name),
		Fields:   fields,
		Oneofs:   oneofs,
		Messages: sortedMessages(m.Messages),
		Enums:    sortedEnums(m.Enums),
		Reserved: sortedRows(m.Reserved),
		Gone:     sortedTexts(m.Gone),
	}
}

func sortedEnums(l []api.EnumDecl) []api.EnumDecl {
	return sortedBy(each(l, sortedEnum), func(d api.EnumDecl) string { return d.Name })
}

func sortedEnum(d api.EnumDecl) api.EnumDecl {
	return api.EnumDecl{
		Name:     strings.Clone(d.Name),
		Values:   sortedValues(d.Values),
		Reserved: sortedRows(d.Reserved),
		Gone:     sortedTexts(d.Gone),
	}
}

func sortedValues(l []api.EnumValue) []api.EnumValue {
	copied := each(l, func(v api.EnumValue) api.EnumValue {
		return api.EnumValue{Name: strings.Clone(v.Name), Number: v.Number}
	})
	return sortedBy(copied, func(v api.EnumValue) int {
		if v.Number == 0 {
			return math.MinInt // ahead of all others
		}
		return v.Number
	})
}

// sortedRows sorts by To ahead of sorting by From, as those of one From stay in their order then.
func sortedRows(l []api.Range) []api.Range {
	byTo := sortedBy(l, func(r api.Range) int { return r.To })
	rows := sortedBy(byTo, func(r api.Range) int { return r.From })
	return joined(rows, func(a, b api.Range) (api.Range, bool) {
		return api.Range{From: a.From, To: b.To}, b.From == a.To+1
	})
}

// sortedFields tells fields in their order, and the names of their oneofs in the order that these have there.
func sortedFields(l []api.FieldDecl, names []string) ([]api.FieldDecl, []string) {
	inside := each(blocks(l), func(b []api.FieldDecl) []api.FieldDecl {
		return sortedBy(b, func(d api.FieldDecl) int { return d.Number })
	})
	var fields []api.FieldDecl
	var oneofs []string
	for _, b := range sortedBy(inside, func(b []api.FieldDecl) int { return b[0].Number }) {
		place := 0
		if o := b[0].Oneof; o != 0 {
			oneofs = append(oneofs, strings.Clone(names[o-1]))
			place = len(oneofs)
		}
		for _, d := range b {
			fields = append(fields, copiedField(d, place))
		}
	}
	return fields, oneofs
}

// copiedField is a field in new memory, in the oneof of that place.
func copiedField(d api.FieldDecl, oneof int) api.FieldDecl {
	d.Key, d.Type, d.Name = strings.Clone(d.Key), strings.Clone(d.Type), strings.Clone(d.Name)
	d.Oneof = oneof
	return d
}

// blocks tells right fields in blocks: those of a oneof are one, each other is one by itself.
func blocks(l []api.FieldDecl) [][]api.FieldDecl {
	alone := each(l, func(d api.FieldDecl) []api.FieldDecl { return []api.FieldDecl{d} })
	return joined(alone, func(a, b []api.FieldDecl) ([]api.FieldDecl, bool) {
		if a[0].Oneof == 0 || a[0].Oneof != b[0].Oneof {
			return nil, false
		}
		return append(a, b...), true
	})
}
