package bind

import (
	"cmp"
	"slices"
	"strings"

	"sigil/api"
)

// The scalars' words, in the order of their types, api.TDouble first.
var scalars = [...]string{
	"double", "float", "int32", "int64", "uint32", "uint64", "sint32", "sint64",
	"fixed32", "fixed64", "sfixed32", "sfixed64", "bool", "string", "bytes",
}

// The numbers that no field may have.
const (
	leastKept = 19000
	mostKept  = 19999
)

// set holds what was met so far.
type set[K comparable] map[K]struct{}

// add says whether it is met for the first time.
func (s set[K]) add(k K) bool {
	before := len(s)
	s[k] = struct{}{}
	return len(s) > before
}

// setOf tells the set of a list.
func setOf[K comparable](l []K) set[K] {
	s := set[K]{}
	for _, k := range l {
		s.add(k)
	}
	return s
}

// check looks at a message or an enum by itself.
func (d declared) check() {
	if d.kind == api.TMessage {
		d.checkMessage(d.message)
	} else {
		d.checkEnum(d.enum)
	}
}

// refuseAt throws a reason, if there is one, that is about a name declared in this message or enum.
func (d declared) refuseAt(why error, name string) {
	if why != nil {
		refuse(why, d.file, join(d.full, name))
	}
}

// checkHead looks at how many there are of what a message or an enum is made of, and at what it reserves.
func (d declared) checkHead(count int, rows []api.Range, gone []string) {
	if count > api.MaxFields {
		refuse(errTypes, d.file, d.full)
	}
	if haveCommon(rows) || len(setOf(gone)) < len(gone) {
		refuse(errReserved, d.file, d.full)
	}
}

// haveCommon says whether two rows have a number in common. Sorted, a row that meets one ahead of it meets the one just ahead of it, or that one meets another.
func haveCommon(rows []api.Range) bool {
	sorted := byFrom(rows)
	for i := 1; i < len(sorted); i++ {
		if sorted[i].From <= sorted[i-1].To {
			return true
		}
	}
	return false
}

// byFrom tells rows in the order of where they begin.
func byFrom(rows []api.Range) []api.Range {
	sorted := slices.Clone(rows)
	slices.SortFunc(sorted, func(a, b api.Range) int { return cmp.Compare(a.From, b.From) })
	return sorted
}

// inRows says whether a number lies in one of the rows.
func inRows(rows []api.Range, n int) bool {
	return slices.ContainsFunc(rows, func(r api.Range) bool { return r.From <= n && n <= r.To })
}

// checkMessage looks at a message by itself, but for what its fields' types name.
func (d declared) checkMessage(m api.MessageDecl) {
	d.checkHead(len(m.Fields), m.Reserved, m.Gone)
	names := set[string]{}
	for _, in := range m.Messages {
		names.add(in.Name)
	}
	for _, in := range m.Enums {
		names.add(in.Name)
	}
	for _, name := range m.Oneofs {
		if !names.add(name) {
			d.refuseAt(errTwice, name)
		}
	}
	fault := fieldFaults(names, m.Reserved, m.Gone)
	for _, f := range m.Fields {
		d.refuseAt(fault(f), f.Name)
	}
}

// fieldFaults makes what tells the first reason against a field behind those that it was shown before. The names are those that no field may have.
func fieldFaults(names set[string], rows []api.Range, gone []string) func(api.FieldDecl) error {
	numbers, jsons := set[int]{}, set[string]{}
	return func(f api.FieldDecl) error {
		switch {
		case !names.add(f.Name):
			return errTwice
		case !isNumber(f.Number) || !numbers.add(f.Number):
			return errFieldNumber
		case inRows(rows, f.Number) || slices.Contains(gone, f.Name):
			return errReserved
		case !jsons.add(jsonName(f.Name)):
			return errJsonName
		case f.Card == api.CMap && !isKey(scalar(f.Key)):
			return errMapKey
		}
		return nil
	}
}

// checkEnum looks at an enum by itself.
func (d declared) checkEnum(m api.EnumDecl) {
	d.checkHead(len(m.Values), m.Reserved, m.Gone)
	if m.Values[0].Number != 0 {
		refuse(errEnumValue, d.file, d.full)
	}
	names, numbers := set[string]{}, set[int]{}
	for _, v := range m.Values {
		switch {
		case !names.add(v.Name):
			d.refuseAt(errTwice, v.Name)
		case !numbers.add(v.Number):
			d.refuseAt(errEnumValue, v.Name)
		case inRows(m.Reserved, v.Number) || slices.Contains(m.Gone, v.Name):
			d.refuseAt(errReserved, v.Name)
		}
	}
}

// isNumber says whether a field may have a number.
func isNumber(n int) bool {
	return 1 <= n && n <= api.MaxNumber && !(leastKept <= n && n <= mostKept)
}

// scalar tells the type of a scalar's word; 0 of any other text.
func scalar(word string) int {
	for i, w := range scalars {
		if w == word {
			return api.TDouble + i
		}
	}
	return 0
}

// isKey says whether a map's keys may have a type: all scalars but the floats and bytes.
func isKey(t int) bool { return api.TInt32 <= t && t <= api.TString }

// jsonName tells the JSON name of a field.
func jsonName(name string) string {
	var b strings.Builder
	behind := false // an underscore
	for i := range len(name) {
		c := name[i]
		if c != '_' {
			if behind && 'a' <= c && c <= 'z' {
				c -= 'a' - 'A'
			}
			b.WriteByte(c)
		}
		behind = c == '_'
	}
	return b.String()
}
