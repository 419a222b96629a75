package bind_test

import (
	"fmt"
	"regexp"
	"slices"
	"strings"

	"sigil/api"
	"sigil/parse"
	"sigil/print"
)

// second is a second reading of the chapter, word by word, over plain lists: it holds each thing against all others, and gathers all faults of a round.
type second struct {
	sources []api.Source
	files   []api.File
	types   []*secondType
	faults  []api.Fault
	told    map[string]api.Message // what Message told
}

// secondType is a message or an enum (then message is nil).
type secondType struct {
	file    int
	pack    string
	names   []string // from the outermost message on
	message *api.MessageDecl
	enum    *api.EnumDecl
	fields  []api.Field // as they are declared
}

func (t *secondType) full() string {
	if t.pack == "" {
		return strings.Join(t.names, ".")
	}
	return t.pack + "." + strings.Join(t.names, ".")
}

func (t *secondType) within(name string) string { return t.full() + "." + name }

// loadSecond is Load; without a look at how long the texts become, but where that is asked for.
func loadSecond(sources []api.Source) (*second, api.Fault) {
	m := &second{sources: sources, told: map[string]api.Message{}}
	for _, round := range []func(){m.round1, m.round2, m.round3, m.round4, m.round5, m.round6, m.round7} {
		round()
		if len(m.faults) > 0 {
			return nil, m.faults[0]
		}
	}
	return m, api.Fault{}
}

func (m *second) fault(wrong bool, e api.Errno, file int, name string) {
	if wrong {
		m.faults = append(m.faults, api.Fault{Err: e, File: file, Name: name})
	}
}

func (m *second) round1() {
	m.fault(len(m.sources) > 16, api.ErrLong, 0, "")
	for i, s := range m.sources {
		m.fault(s.Name == "", api.ErrName, i, "")
		m.fault(len(s.Name) > 255, api.ErrLong, i, "")
		for _, ahead := range m.sources[:i] {
			m.fault(ahead.Name == s.Name, api.ErrTwice, i, s.Name)
		}
	}
}

func (m *second) round2() {
	for i, s := range m.sources {
		f, bad := parse.Parse(s.Text)
		if bad.Err != api.OK {
			bad.File = i
			m.faults = append(m.faults, bad)
		}
		m.files = append(m.files, f)
	}
}

func (m *second) round3() {
	for i, f := range m.files {
		for j, name := range f.Imports {
			has := slices.ContainsFunc(m.sources, func(s api.Source) bool { return s.Name == name })
			m.fault(!has || m.sources[i].Name == name || slices.Contains(f.Imports[:j], name), api.ErrImport, i, name)
		}
	}
}

// walked tells the messages and enums in a scope, by the walk.
func walked(file int, pack string, around []string, messages []api.MessageDecl, enums []api.EnumDecl) []*secondType {
	var l []*secondType
	for i := range messages {
		names := append(slices.Clone(around), messages[i].Name)
		l = append(l, &secondType{file: file, pack: pack, names: names, message: &messages[i]})
		l = append(l, walked(file, pack, names, messages[i].Messages, messages[i].Enums)...)
	}
	for i := range enums {
		l = append(l, &secondType{file: file, pack: pack, names: append(slices.Clone(around), enums[i].Name), enum: &enums[i]})
	}
	return l
}

// partsOf are the package parts of a package.
func partsOf(pack string) []string {
	var l []string
	for i := range pack {
		if pack[i] == '.' {
			l = append(l, pack[:i])
		}
	}
	if pack != "" {
		l = append(l, pack)
	}
	return l
}

func (m *second) round4() {
	for i, f := range m.files {
		m.types = append(m.types, walked(i, f.Package, nil, f.Messages, f.Enums)...)
	}
	for i, d := range m.types {
		m.fault(len(d.full()) > 254, api.ErrLong, d.file, d.full())
		for _, ahead := range m.types[:i] {
			m.fault(ahead.full() == d.full(), api.ErrTwice, d.file, d.full())
		}
		for _, f := range m.files {
			m.fault(slices.Contains(partsOf(f.Package), d.full()), api.ErrTwice, d.file, d.full())
		}
		m.fault(i+1 > 512, api.ErrTypes, d.file, d.full())
	}
}

func (m *second) round5() {
	for _, d := range m.types {
		if d.message != nil {
			m.messageItself(d, *d.message)
		} else {
			m.enumItself(d, *d.enum)
		}
	}
}

// reservedTwice says whether two of the rows have a number in common, or two of the names are the same.
func reservedTwice(rows []api.Range, gone []string) bool {
	for i := range rows {
		for _, r := range rows[:i] {
			if max(r.From, rows[i].From) <= min(r.To, rows[i].To) {
				return true
			}
		}
	}
	for i := range gone {
		if slices.Contains(gone[:i], gone[i]) {
			return true
		}
	}
	return false
}

// isReserved says whether a number or a name is.
func isReserved(rows []api.Range, gone []string, number int, name string) bool {
	for _, r := range rows {
		if number >= r.From && number <= r.To {
			return true
		}
	}
	return slices.Contains(gone, name)
}

var underscores = regexp.MustCompile(`_+[a-z]?`)

// secondJson is the JSON name of a field.
func secondJson(name string) string {
	return underscores.ReplaceAllStringFunc(name, func(s string) string { return strings.ToUpper(strings.Trim(s, "_")) })
}

const keyWords = " int32 int64 uint32 uint64 sint32 sint64 fixed32 fixed64 sfixed32 sfixed64 bool string "

func (m *second) messageItself(d *secondType, c api.MessageDecl) {
	m.fault(len(c.Fields) > 512, api.ErrTypes, d.file, d.full())
	m.fault(reservedTwice(c.Reserved, c.Gone), api.ErrReserved, d.file, d.full())
	var inside []string
	for _, in := range c.Messages {
		inside = append(inside, in.Name)
	}
	for _, in := range c.Enums {
		inside = append(inside, in.Name)
	}
	for i, o := range c.Oneofs {
		m.fault(slices.Contains(c.Oneofs[:i], o) || slices.Contains(inside, o), api.ErrTwice, d.file, d.within(o))
	}
	var jsons []string
	for i, f := range c.Fields {
		ahead := func(alike func(g api.FieldDecl) bool) bool { return slices.ContainsFunc(c.Fields[:i], alike) }
		twice := slices.Contains(c.Oneofs, f.Name) || slices.Contains(inside, f.Name) || ahead(func(g api.FieldDecl) bool { return g.Name == f.Name })
		m.fault(twice, api.ErrTwice, d.file, d.within(f.Name))
		number := f.Number < 1 || f.Number > 536870911 || f.Number/1000 == 19 || ahead(func(g api.FieldDecl) bool { return g.Number == f.Number })
		m.fault(number, api.ErrFieldNumber, d.file, d.within(f.Name))
		m.fault(isReserved(c.Reserved, c.Gone, f.Number, f.Name), api.ErrReserved, d.file, d.within(f.Name))
		m.fault(slices.Contains(jsons, secondJson(f.Name)), api.ErrJsonName, d.file, d.within(f.Name))
		jsons = append(jsons, secondJson(f.Name))
		m.fault(f.Card == 4 && !strings.Contains(keyWords, " "+f.Key+" "), api.ErrMapKey, d.file, d.within(f.Name))
	}
}

func (m *second) enumItself(d *secondType, c api.EnumDecl) {
	m.fault(len(c.Values) > 512, api.ErrTypes, d.file, d.full())
	m.fault(reservedTwice(c.Reserved, c.Gone), api.ErrReserved, d.file, d.full())
	m.fault(c.Values[0].Number != 0, api.ErrEnumValue, d.file, d.full())
	for i, v := range c.Values {
		ahead := func(alike func(w api.EnumValue) bool) bool { return slices.ContainsFunc(c.Values[:i], alike) }
		m.fault(ahead(func(w api.EnumValue) bool { return w.Name == v.Name }), api.ErrTwice, d.file, d.within(v.Name))
		m.fault(ahead(func(w api.EnumValue) bool { return w.Number == v.Number }), api.ErrEnumValue, d.file, d.within(v.Name))
		m.fault(isReserved(c.Reserved, c.Gone, v.Number, v.Name), api.ErrReserved, d.file, d.within(v.Name))
	}
}

// words are the scalars', by their types.
var words = []string{"", "double", "float", "int32", "int64", "uint32", "uint64", "sint32", "sint64", "fixed32", "fixed64", "sfixed32", "sfixed64", "bool", "string", "bytes"}

func (m *second) round6() {
	for _, d := range m.types {
		if d.message == nil {
			continue
		}
		for _, c := range d.message.Fields {
			f := api.Field{Number: c.Number, Name: c.Name, Json: secondJson(c.Name), Card: c.Card, Oneof: c.Oneof, Key: max(slices.Index(words, c.Key), 0), Type: slices.Index(words, c.Type)}
			if f.Type < 0 {
				found, e := m.meant(d, c.Type)
				if e == api.OK {
					f.Of, f.Type = found.full(), api.TMessage
					if found.message == nil {
						f.Type = api.TEnum
					}
				}
				m.fault(e != api.OK, e, d.file, d.within(c.Name))
			}
			d.fields = append(d.fields, f)
		}
	}
}

// visible tells the message or enum of a full name that is visible in a source, and whether it is a package part that is.
func (m *second) visible(file int, full string) (*secondType, bool) {
	part := false
	for i, s := range m.sources {
		if i != file && !slices.Contains(m.files[file].Imports, s.Name) {
			continue
		}
		for _, d := range m.types {
			if d.file == i && d.full() == full {
				return d, false
			}
		}
		part = part || slices.Contains(partsOf(m.files[i].Package), full)
	}
	return nil, part
}

// meant tells what the type of a field names.
func (m *second) meant(in *secondType, typ string) (*secondType, api.Errno) {
	names := strings.Split(typ, ".")
	if names[0] == "" {
		return m.full(in.file, strings.Join(names[1:], "."))
	}
	around := strings.Split(in.full(), ".")
	parts := 0
	for n := len(around); n >= 0; n-- {
		scope := slices.Clone(around[:n])
		found, part := m.visible(in.file, strings.Join(append(scope, names[0]), "."))
		if found != nil || part && len(names) > 1 {
			return m.full(in.file, strings.Join(append(scope, names...), "."))
		}
		if part {
			parts++
		}
	}
	if parts > 0 {
		return nil, api.ErrNoType
	}
	return nil, api.ErrUnknown
}

func (m *second) full(file int, full string) (*secondType, api.Errno) {
	found, part := m.visible(file, full)
	switch {
	case found != nil:
		return found, api.OK
	case part:
		return nil, api.ErrNoType
	}
	return nil, api.ErrUnknown
}

func (m *second) round7() {
	for _, pack := range m.packages() {
		_, bad := print.Canon(m.text(pack))
		m.fault(bad.Err != api.OK, api.ErrLong, 0, pack)
	}
}

// packages are those that have a message or enum, rising.
func (m *second) packages() []string {
	var l []string
	for _, d := range m.types {
		l = append(l, d.pack)
	}
	slices.Sort(l)
	return slices.Compact(l)
}

// text is the text of a package, in the order in which it is declared.
func (m *second) text(pack string) string {
	head, imports, body := "syntax = \"proto3\";", map[string]bool{}, ""
	if pack != "" {
		head += "package " + pack + ";"
	}
	for _, d := range m.types {
		if d.pack == pack && len(d.names) == 1 {
			body += m.declaration(d, inOrder)
		}
		for _, f := range d.fields {
			if d.pack == pack && f.Of != "" {
				imports[m.find(f.Of).pack] = true
			}
		}
	}
	for other := range imports {
		if other != pack {
			head += fmt.Sprintf("import %q;", dotted(other))
		}
	}
	return head + body
}

// dotted is the name of a package's source.
func dotted(pack string) string {
	if pack == "" {
		return "."
	}
	return pack
}

// find tells a message or enum; nil, if there is none.
func (m *second) find(full string) *secondType {
	for _, d := range m.types {
		if d.full() == full {
			return d
		}
	}
	return nil
}

// declaration is the text of a message or enum, with all that is declared in it: mix puts statements into an order.
func (m *second) declaration(d *secondType, mix func([]string) string) string {
	name := d.names[len(d.names)-1]
	if d.message == nil {
		l := reservations(d.enum.Reserved, d.enum.Gone)
		for _, v := range d.enum.Values[1:] {
			l = append(l, fmt.Sprintf("%s = %d;", v.Name, v.Number))
		}
		return "enum " + name + " {" + d.enum.Values[0].Name + " = 0;" + mix(l) + "}"
	}
	l := reservations(d.message.Reserved, d.message.Gone)
	oneofs := make([][]string, len(d.message.Oneofs))
	for _, f := range d.fields {
		text := fmt.Sprintf("%s %s = %d;", typeText(f), f.Name, f.Number)
		if f.Oneof == 0 {
			l = append(l, text)
		} else {
			oneofs[f.Oneof-1] = append(oneofs[f.Oneof-1], text)
		}
	}
	for i, fields := range oneofs {
		l = append(l, "oneof "+d.message.Oneofs[i]+" {"+mix(fields)+"}")
	}
	for _, in := range m.types {
		if len(in.names) == len(d.names)+1 && in.full() == d.full()+"."+in.names[len(d.names)] {
			l = append(l, m.declaration(in, mix))
		}
	}
	return "message " + name + " {" + mix(l) + "}"
}

// inOrder leaves statements in their order.
func inOrder(l []string) string { return strings.Join(l, " ") }

// typeText is what stands ahead of a field's name.
func typeText(f api.Field) string {
	s := "." + f.Of
	if f.Of == "" {
		s = words[f.Type]
	}
	return []string{"", s, "optional " + s, "repeated " + s, "map<" + words[f.Key] + "," + s + ">"}[f.Card]
}

func reservations(rows []api.Range, gone []string) []string {
	var l []string
	for _, r := range rows {
		l = append(l, fmt.Sprintf("reserved %d to %d;", r.From, r.To))
	}
	for _, name := range gone {
		l = append(l, fmt.Sprintf("reserved %q;", name))
	}
	return l
}

func (m *second) Messages() []string {
	return m.names(func(d *secondType) bool { return d.message != nil })
}

func (m *second) Enums() []string {
	return m.names(func(d *secondType) bool { return d.message == nil })
}

func (m *second) names(of func(*secondType) bool) []string {
	var l []string
	for _, d := range m.types {
		if of(d) {
			l = append(l, d.full())
		}
	}
	slices.Sort(l)
	return l
}

func (m *second) Message(name string) (api.Message, api.Errno) {
	if len(name) > 255 {
		return api.Message{}, api.ErrLong
	}
	if d, ok := m.told[name]; ok {
		return d, api.OK
	}
	d := m.find(name)
	if d == nil || d.message == nil {
		return api.Message{}, api.ErrName
	}
	least := map[int]int{}
	for _, f := range d.fields {
		if n, ok := least[f.Oneof]; !ok || f.Number < n {
			least[f.Oneof] = f.Number
		}
	}
	var places []int
	for i := range d.message.Oneofs {
		places = append(places, i+1)
	}
	slices.SortFunc(places, func(a, b int) int { return least[a] - least[b] })
	out := api.Message{Name: name, Reserved: merged(d.message.Reserved), Gone: slices.Sorted(slices.Values(d.message.Gone))}
	for _, place := range places {
		out.Oneofs = append(out.Oneofs, d.message.Oneofs[place-1])
	}
	for _, f := range d.fields {
		f.Oneof = slices.Index(places, f.Oneof) + 1
		out.Fields = append(out.Fields, f)
	}
	slices.SortFunc(out.Fields, func(a, b api.Field) int { return a.Number - b.Number })
	m.told[name] = out
	return out, api.OK
}

// merged are rows, each one joined with one that it touches till none is left.
func merged(rows []api.Range) []api.Range {
	rows = slices.Clone(rows)
	for again := true; again; {
		again = false
		for i := range rows {
			for j := range rows {
				if !again && i != j && rows[i].To+1 == rows[j].From {
					rows[i].To = rows[j].To
					rows, again = slices.Delete(rows, j, j+1), true
					break
				}
			}
			if again {
				break
			}
		}
	}
	slices.SortFunc(rows, func(a, b api.Range) int { return a.From - b.From })
	return rows
}

func (m *second) Enum(name string) (api.Enum, api.Errno) {
	if len(name) > 255 {
		return api.Enum{}, api.ErrLong
	}
	d := m.find(name)
	if d == nil || d.message != nil {
		return api.Enum{}, api.ErrName
	}
	out := api.Enum{Name: name, Values: slices.Clone(d.enum.Values), Reserved: merged(d.enum.Reserved), Gone: slices.Sorted(slices.Values(d.enum.Gone))}
	rest := out.Values[1:] // the first one is the zero
	slices.SortFunc(rest, func(a, b api.EnumValue) int { return a.Number - b.Number })
	return out, api.OK
}

func (m *second) Field(name string, number int) (api.Field, api.Errno) {
	return m.one(name, func(f api.Field) bool { return f.Number == number })
}

func (m *second) one(name string, is ...func(api.Field) bool) (api.Field, api.Errno) {
	d, e := m.Message(name)
	if e != api.OK {
		return api.Field{}, e
	}
	for _, is := range is {
		for _, f := range d.Fields {
			if is(f) {
				return f, api.OK
			}
		}
	}
	return api.Field{}, api.ErrArg
}

func (m *second) Named(name, field string) (api.Field, api.Errno) {
	if _, e := m.Message(name); e == api.OK && len(field) > 255 {
		return api.Field{}, api.ErrLong
	}
	return m.one(name, func(f api.Field) bool { return f.Name == field }, func(f api.Field) bool { return f.Json == field })
}

func (m *second) Reach(name string) ([]string, api.Errno) {
	if _, e := m.Message(name); e != api.OK {
		return nil, e
	}
	met := map[string]bool{name: true}
	for before := 0; before < len(met); {
		before = len(met)
		for _, d := range m.types {
			for _, f := range d.fields {
				if met[d.full()] && f.Of != "" {
					met[f.Of] = true
				}
			}
		}
	}
	var l []string
	for name := range met {
		l = append(l, name)
	}
	slices.Sort(l)
	return l, api.OK
}

func (m *second) Texts() []api.Source {
	var l []api.Source
	for _, pack := range m.packages() {
		text, _ := print.Canon(m.text(pack))
		l = append(l, api.Source{Name: dotted(pack), Text: text})
	}
	return l
}
