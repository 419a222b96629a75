package print_test

import (
	"fmt"
	"slices"
	"strings"
	"testing"

	"sigil/api"
	"sigil/parse"
)

// long is a word of one byte more than a name may have.
var long = strings.Repeat("n", api.MaxName+1)

// whole are right declarations with something of each kind, in messages and enums at several depths.
func whole() api.File {
	enum := func(name string) api.EnumDecl {
		return api.EnumDecl{Name: name, Values: []api.EnumValue{{Name: "A"}, {Name: "B", Number: -1}, {Name: "C", Number: 5}}, Reserved: []api.Range{{From: -9, To: -5}, {From: 7, To: 7}}, Gone: []string{"g", "h"}}
	}
	message := func(name string, in ...api.MessageDecl) api.MessageDecl {
		return api.MessageDecl{
			Name: name,
			Fields: []api.FieldDecl{
				{Card: 1, Type: "int32", Name: "a", Number: 1}, {Card: 1, Type: "T", Name: "b", Number: 2, Oneof: 1}, {Card: 1, Type: ".p.T", Name: "c", Number: 3, Oneof: 1}, {Card: 2, Type: "T", Name: "d", Number: 4},
				{Card: 1, Type: "T", Name: "e", Number: 5, Oneof: 2}, {Card: 3, Type: "T", Name: "f", Number: 6}, {Card: 4, Key: "string", Type: "T", Name: "g", Number: 7}, {Card: 1, Type: "T", Name: "h", Number: 8, Oneof: 3},
			},
			Oneofs: []string{"o", "p", "q"}, Reserved: []api.Range{{From: 20, To: 29}, {From: 31, To: 31}}, Gone: []string{"i", "j"}, Messages: in, Enums: []api.EnumDecl{enum("F"), enum("G")},
		}
	}
	return api.File{
		Package: "p.q", Imports: []string{"x", "y"},
		Messages: []api.MessageDecl{message("L"), message("M", message("N"), message("O", message("P")))},
		Enums:    []api.EnumDecl{enum("D"), enum("E")},
	}
}

// change is something that is done to declarations.
type change struct {
	name string
	do   func(f *api.File)
}

// inSpots makes changes of what is done to a message at each of several places, and to an enum.
func inSpots(message map[string]func(m *api.MessageDecl), enum map[string]func(d *api.EnumDecl)) []change {
	var l []change
	for name, do := range message {
		for spot, find := range map[string]func(f *api.File) *api.MessageDecl{
			"first":  func(f *api.File) *api.MessageDecl { return &f.Messages[0] },
			"last":   func(f *api.File) *api.MessageDecl { return &f.Messages[1] },
			"inside": func(f *api.File) *api.MessageDecl { return &f.Messages[1].Messages[0] },
			"deep":   func(f *api.File) *api.MessageDecl { return &f.Messages[1].Messages[1].Messages[0] },
		} {
			l = append(l, change{name + ", message, " + spot, func(f *api.File) { do(find(f)) }})
		}
	}
	for name, do := range enum {
		for spot, find := range map[string]func(f *api.File) *api.EnumDecl{
			"first":  func(f *api.File) *api.EnumDecl { return &f.Enums[0] },
			"last":   func(f *api.File) *api.EnumDecl { return &f.Enums[1] },
			"inside": func(f *api.File) *api.EnumDecl { return &f.Messages[0].Enums[1] },
			"deep":   func(f *api.File) *api.EnumDecl { return &f.Messages[1].Messages[1].Messages[0].Enums[0] },
		} {
			l = append(l, change{name + ", enum, " + spot, func(f *api.File) { do(find(f)) }})
		}
	}
	slices.SortFunc(l, func(a, b change) int { return strings.Compare(a.name, b.name) })
	return l
}

// fileBreaks are changes that break a condition of a file.
func fileBreaks() []change {
	l := []change{
		{"import empty", func(f *api.File) { f.Imports[0] = "" }},
		{"last import empty", func(f *api.File) { f.Imports[1] = "" }},
		{"import long", func(f *api.File) { f.Imports[1] = long }},
		{"import very long", func(f *api.File) { f.Imports[0] = strings.Repeat("x", 1<<17) }},
		{"too deep", func(f *api.File) { f.Messages = append(f.Messages, deep(33)) }},
		{"too many", func(f *api.File) { f.Imports = append(f.Imports, slices.Repeat([]string{"x"}, 4096)...) }},
	}
	for _, s := range []string{".", ".a", "a.", "a..b", "1", "a.1", "a b", " a", "a ", "a\n", "é", "a-b", "a;", long, "a." + long, strings.Repeat("ab.", 85) + "a"} {
		l = append(l, change{fmt.Sprintf("package %q", s), func(f *api.File) { f.Package = s }})
	}
	return l
}

// breaks are changes each of which breaks one condition.
func breaks() []change {
	message := map[string]func(m *api.MessageDecl){
		"oneof below 0":             func(m *api.MessageDecl) { m.Fields[0].Oneof = -1 },
		"oneof above":               func(m *api.MessageDecl) { m.Fields[7].Oneof = 4 },
		"oneof far above":           func(m *api.MessageDecl) { m.Fields[0].Oneof = 1 << 40 },
		"oneof apart":               func(m *api.MessageDecl) { m.Fields[7].Oneof = 2; m.Oneofs = m.Oneofs[:2] },
		"oneof without a field":     func(m *api.MessageDecl) { m.Oneofs = append(m.Oneofs, "r") },
		"first oneof without":       func(m *api.MessageDecl) { m.Fields = m.Fields[3:] },
		"middle oneof without":      func(m *api.MessageDecl) { m.Fields[4].Oneof = 0 },
		"no oneofs":                 func(m *api.MessageDecl) { m.Oneofs = nil },
		"no fields":                 func(m *api.MessageDecl) { m.Fields = nil },
		"oneofs in another order":   func(m *api.MessageDecl) { m.Fields[4].Oneof, m.Fields[7].Oneof = 3, 2 },
		"optional in a oneof":       func(m *api.MessageDecl) { m.Fields[1].Card = 2 },
		"repeated in a oneof":       func(m *api.MessageDecl) { m.Fields[2].Card = 3 },
		"map in a oneof":            func(m *api.MessageDecl) { m.Fields[7].Card, m.Fields[7].Key = 4, "string" },
		"card 0":                    func(m *api.MessageDecl) { m.Fields[0].Card = 0 },
		"card 5":                    func(m *api.MessageDecl) { m.Fields[5].Card = 5 },
		"card -1":                   func(m *api.MessageDecl) { m.Fields[6].Card = -1 },
		"key of a single":           func(m *api.MessageDecl) { m.Fields[0].Key = "string" },
		"key in a oneof":            func(m *api.MessageDecl) { m.Fields[1].Key = "string" },
		"key of an optional":        func(m *api.MessageDecl) { m.Fields[3].Key = "string" },
		"key of a repeated":         func(m *api.MessageDecl) { m.Fields[5].Key = "string" },
		"number below 0":            func(m *api.MessageDecl) { m.Fields[0].Number = -1 },
		"number above":              func(m *api.MessageDecl) { m.Fields[7].Number = 2147483648 },
		"number far below":          func(m *api.MessageDecl) { m.Fields[3].Number = -1 << 63 },
		"number far above":          func(m *api.MessageDecl) { m.Fields[6].Number = 1<<63 - 1 },
		"row from 0":                func(m *api.MessageDecl) { m.Reserved[0].From = 0 },
		"row of 0":                  func(m *api.MessageDecl) { m.Reserved[1] = api.Range{} },
		"row below 0":               func(m *api.MessageDecl) { m.Reserved[0] = api.Range{From: -3, To: 5} },
		"row above":                 func(m *api.MessageDecl) { m.Reserved[1].To = 536870912 },
		"row far above":             func(m *api.MessageDecl) { m.Reserved[1] = api.Range{From: 536870912, To: 536870912} },
		"row that falls":            func(m *api.MessageDecl) { m.Reserved[1].From = 32 },
		"single type message":       func(m *api.MessageDecl) { m.Fields[0].Type = "message" },
		"single type required.a":    func(m *api.MessageDecl) { m.Fields[0].Type = "required.a" },
		"type reserved in a oneof":  func(m *api.MessageDecl) { m.Fields[2].Type = "reserved" },
		"type option.a in a oneof":  func(m *api.MessageDecl) { m.Fields[7].Type = "option.a" },
		"type group of an optional": func(m *api.MessageDecl) { m.Fields[3].Type = "group" },
		"type group.a of a list":    func(m *api.MessageDecl) { m.Fields[5].Type = "group.a" },
	}
	enum := map[string]func(d *api.EnumDecl){
		"no values":          func(d *api.EnumDecl) { d.Values = nil },
		"value option":       func(d *api.EnumDecl) { d.Values[0].Name = "option" },
		"value reserved":     func(d *api.EnumDecl) { d.Values[2].Name = "reserved" },
		"value's number":     func(d *api.EnumDecl) { d.Values[0].Number = 2147483648 },
		"last value's":       func(d *api.EnumDecl) { d.Values[2].Number = -2147483649 },
		"value far above":    func(d *api.EnumDecl) { d.Values[1].Number = 1<<63 - 1 },
		"row below":          func(d *api.EnumDecl) { d.Reserved[0].From = -2147483649 },
		"row above":          func(d *api.EnumDecl) { d.Reserved[1].To = 2147483648 },
		"row far below":      func(d *api.EnumDecl) { d.Reserved[1] = api.Range{From: -1 << 63, To: -1 << 63} },
		"row that falls":     func(d *api.EnumDecl) { d.Reserved[0].To = -10 },
		"last row that does": func(d *api.EnumDecl) { d.Reserved[1] = api.Range{From: 2147483647, To: -2147483648} },
	}
	for _, s := range []string{"", "1", "a.b", "a b", "é", long} {
		message["name "+s] = func(m *api.MessageDecl) { m.Name = s }
		message["oneof "+s] = func(m *api.MessageDecl) { m.Oneofs[0] = s }
		message["last oneof "+s] = func(m *api.MessageDecl) { m.Oneofs[2] = s }
		message["gone "+s] = func(m *api.MessageDecl) { m.Gone[0] = s }
		message["last gone "+s] = func(m *api.MessageDecl) { m.Gone[1] = s }
		message["field "+s] = func(m *api.MessageDecl) { m.Fields[0].Name = s }
		message["last field "+s] = func(m *api.MessageDecl) { m.Fields[7].Name = s }
		enum["name "+s] = func(d *api.EnumDecl) { d.Name = s }
		enum["value "+s] = func(d *api.EnumDecl) { d.Values[0].Name = s }
		enum["last value "+s] = func(d *api.EnumDecl) { d.Values[2].Name = s }
		enum["gone "+s] = func(d *api.EnumDecl) { d.Gone[0] = s }
		enum["last gone "+s] = func(d *api.EnumDecl) { d.Gone[1] = s }
	}
	for _, s := range []string{"", ".", "..a", "a.", "a..b", "1", "a.1", "a b", "é", long, "." + long[1:], strings.Repeat("ab.", 85) + "a"} {
		message["type "+s] = func(m *api.MessageDecl) { m.Fields[0].Type = s }
		message["last type "+s] = func(m *api.MessageDecl) { m.Fields[7].Type = s }
		message["list's type "+s] = func(m *api.MessageDecl) { m.Fields[5].Type = s }
		message["map's type "+s] = func(m *api.MessageDecl) { m.Fields[6].Type = s }
		message["map's key "+s] = func(m *api.MessageDecl) { m.Fields[6].Key = s }
	}
	return append(fileBreaks(), inSpots(message, enum)...)
}

// keeps are changes each of which leaves declarations right, at the edges.
func keeps() []change {
	most := long[1:]
	message := map[string]func(m *api.MessageDecl){
		"name":  func(m *api.MessageDecl) { m.Name = most },
		"names": func(m *api.MessageDecl) { m.Fields[0].Name, m.Oneofs[1], m.Gone[0] = most, most, most },
		"types": func(m *api.MessageDecl) {
			m.Fields[0].Type, m.Fields[1].Type, m.Fields[3].Type = most, "."+most[1:], "a."+most[2:]
		},
		"map":            func(m *api.MessageDecl) { m.Fields[6].Type, m.Fields[6].Key = "."+most[1:], ".a."+most[3:] },
		"map of options": func(m *api.MessageDecl) { m.Fields[6].Type, m.Fields[6].Key = "option", "group" },
		"numbers":        func(m *api.MessageDecl) { m.Fields[0].Number, m.Fields[1].Number = 0, 2147483647 },
		"rows": func(m *api.MessageDecl) {
			m.Reserved[0], m.Reserved[1] = api.Range{From: 1, To: 536870911}, api.Range{From: 536870911, To: 536870911}
		},
		"nothing reserved": func(m *api.MessageDecl) { m.Reserved, m.Gone = nil, []string{} },
		"nothing in it":    func(m *api.MessageDecl) { m.Fields, m.Oneofs = nil, nil },
		"no oneofs":        func(m *api.MessageDecl) { m.Fields, m.Oneofs = m.Fields[:1], nil },
		"alike": func(m *api.MessageDecl) {
			m.Oneofs[1], m.Gone[1], m.Fields[1].Name, m.Fields[1].Number = "o", "i", "a", 1
		},
		"refused elsewhere": func(m *api.MessageDecl) {
			m.Fields[3].Type, m.Fields[5].Type, m.Fields[4].Type, m.Fields[0].Type = "message", "optional", "extend", "service.group"
		},
		"words": func(m *api.MessageDecl) {
			m.Name, m.Oneofs[0], m.Gone[0], m.Fields[0].Name = "option", "message", "reserved", "option"
		},
	}
	enum := map[string]func(d *api.EnumDecl){
		"names":   func(d *api.EnumDecl) { d.Name, d.Values[0].Name, d.Gone[1] = most, most, most },
		"numbers": func(d *api.EnumDecl) { d.Values[0].Number, d.Values[2].Number = -2147483648, 2147483647 },
		"rows": func(d *api.EnumDecl) {
			d.Reserved[0], d.Reserved[1] = api.Range{From: -2147483648, To: 2147483647}, api.Range{From: -2147483648, To: -2147483648}
		},
		"nothing reserved": func(d *api.EnumDecl) { d.Reserved, d.Gone = nil, nil },
		"one value":        func(d *api.EnumDecl) { d.Values = d.Values[:1] },
		"words":            func(d *api.EnumDecl) { d.Name, d.Values[0].Name, d.Values[1].Name = "reserved", "message", "Option" },
	}
	return append(inSpots(message, enum),
		change{"no package", func(f *api.File) { f.Package = "" }},
		change{"package", func(f *api.File) { f.Package = most }},
		change{"package of parts", func(f *api.File) { f.Package = strings.Repeat("message.", 31) + "package" }},
		change{"imports", func(f *api.File) { f.Imports = []string{most, "\x00", strings.Repeat("\xff", 255), "x"} }},
		change{"no imports", func(f *api.File) { f.Imports = []string{} }},
		change{"deep", func(f *api.File) { f.Messages = append(f.Messages, deep(32)) }},
		change{"enums twice", func(f *api.File) { f.Enums = append(f.Enums, f.Enums...) }},
	)
}

// deep is a message that n messages lie in one another, itself too.
func deep(n int) api.MessageDecl {
	m := api.MessageDecl{Name: "M"}
	for range n - 1 {
		m = api.MessageDecl{Name: "M", Messages: []api.MessageDecl{m}}
	}
	return m
}

// changed does changes to declarations, and says whether that is possible.
func changed(f api.File, l ...change) (g api.File, ok bool) {
	defer func() {
		if recover() != nil { // another change took away what this one changes
			ok = false
		}
	}()
	g = copied(f)
	for _, c := range l {
		c.do(&g)
	}
	return g, true
}

func TestBreaks(t *testing.T) { // P601: each condition broken alone; where nothing else is wrong, and where the text is too long besides
	checkRight(t, "whole", whole(), api.OK)
	tooLong := whole()
	for range 300 {
		tooLong.Imports = append(tooLong.Imports, long[1:])
	}
	checkRight(t, "too long", tooLong, api.ErrLong)
	for _, c := range breaks() {
		f, ok := changed(whole(), c)
		if !ok || len(modelWrongs(f)) == 0 {
			t.Errorf("%s: no break", c.name)
		}
		checkRight(t, c.name, f, api.ErrDecl)
		f, _ = changed(tooLong, c)
		checkRight(t, c.name+", too long", f, api.ErrDecl)
	}
}

func TestTwoBreaks(t *testing.T) { // P601: two conditions at a time; of some pairs one takes the other away
	l := breaks()
	for i, a := range l {
		for j, b := range l {
			if (i+j)%61 != 0 { // enough of them
				continue
			}
			f, ok := changed(whole(), a, b)
			if ok && len(modelWrongs(f)) > 0 {
				checkRight(t, a.name+"; "+b.name, f, api.ErrDecl)
			}
		}
	}
}

func TestKeeps(t *testing.T) { // P601: what is right at the edges, alone and two at a time, and with a break besides
	for i, c := range keeps() {
		f, ok := changed(whole(), c)
		if !ok {
			t.Errorf("%s: no change", c.name)
		}
		checkRight(t, c.name, f, api.OK)
		for j, d := range keeps() {
			if (i+j)%7 != 0 { // enough of them
				continue
			}
			if f, ok := changed(whole(), c, d); ok {
				checkRight(t, c.name+"; "+d.name, f, modelRight(f))
			}
		}
	}
	broken := breaks()
	for i, c := range keeps() {
		for j, d := range broken {
			if (i+j)%31 != 0 { // enough of them
				continue
			}
			if f, ok := changed(whole(), c, d); ok {
				checkRight(t, c.name+"; "+d.name, f, modelRight(f))
			}
		}
	}
}

// texts are all texts of up to n pieces.
func texts(n int, pieces ...string) []string {
	l := []string{""}
	for from, k := 0, 0; k < n; k++ {
		to := len(l)
		for _, s := range l[from:to] {
			for _, p := range pieces {
				l = append(l, s+p)
			}
		}
		from = to
	}
	return l
}

func TestNames(t *testing.T) { // P601: names, types, words, of a few kinds of bytes
	for _, s := range texts(5, "a", ".", "1", "_", " ") {
		if s == "" || namesForm.MatchString(s) {
			checkRight(t, "package "+s, api.File{Package: s}, api.OK)
		} else {
			checkRight(t, "package "+s, api.File{Package: s}, api.ErrDecl)
		}
		is := func(ok bool) api.Errno {
			if ok {
				return api.OK
			}
			return api.ErrDecl
		}
		for card := 1; card <= 4; card++ {
			checkRight(t, "type "+s, withFields(typed(card, s, 0)), is(typeForm.MatchString(s)))
		}
		checkRight(t, "type in a oneof "+s, withFields(typed(1, s, 1)), is(typeForm.MatchString(s)))
		checkRight(t, "key "+s, withFields(api.FieldDecl{Card: 4, Key: s, Type: "T", Name: "a"}), is(typeForm.MatchString(s)))
		if len(s) > 3 {
			continue
		}
		word := is(wordForm.MatchString(s))
		checkRight(t, "message "+s, api.File{Messages: []api.MessageDecl{{Name: s}}}, word)
		checkRight(t, "enum "+s, api.File{Enums: []api.EnumDecl{{Name: s, Values: []api.EnumValue{{Name: "Z"}}}}}, word)
		checkRight(t, "value "+s, inEnum(api.EnumDecl{Values: []api.EnumValue{{Name: s}}}), word)
		checkRight(t, "field "+s, withFields(api.FieldDecl{Card: 1, Type: "T", Name: s}), word)
		checkRight(t, "oneof "+s, inMessage(api.MessageDecl{Oneofs: []string{s}, Fields: []api.FieldDecl{typed(1, "T", 1)}}), word)
		checkRight(t, "gone "+s, inMessage(api.MessageDecl{Gone: []string{s}}), word)
		checkRight(t, "gone of an enum "+s, inEnum(api.EnumDecl{Gone: []string{s}}), word)
		checkRight(t, "import "+s, api.File{Imports: []string{s}}, is(s != ""))
	}
}

func TestBytes(t *testing.T) { // P601, P602: each byte in an import, and in a name
	for c := range 256 {
		s := string([]byte{byte(c)})
		for _, i := range []string{s, s + "7", "a" + s, s + s, "é" + s} {
			checkRight(t, fmt.Sprintf("import %q", i), api.File{Imports: []string{i}}, api.OK)
		}
		want := api.ErrDecl
		if parse.Word("a" + s) {
			want = api.OK
		}
		checkRight(t, fmt.Sprintf("message %q", "a"+s), api.File{Messages: []api.MessageDecl{{Name: "a" + s}}}, want)
		checkRight(t, fmt.Sprintf("gone %q", "a"+s), inMessage(api.MessageDecl{Gone: []string{"a" + s}}), want)
	}
}

func TestLengths(t *testing.T) { // P601: MaxName bytes and one more, in one piece and in many, with and without a leading dot
	for n := api.MaxName - 3; n <= api.MaxName+3; n++ {
		want := api.OK
		if n > api.MaxName {
			want = api.ErrDecl
		}
		piece, dots := long+long, strings.Repeat("a.", n)
		if n%2 == 0 {
			dots = "b" + dots
		}
		for _, s := range []string{piece[:n], dots[:n], "a." + piece[:n-2], piece[:n-2] + ".a"} {
			checkRight(t, "package", api.File{Package: s}, want)
			for card := 1; card <= 4; card++ {
				checkRight(t, "type", withFields(typed(card, s, 0)), want)
				checkRight(t, "type with a dot", withFields(typed(card, "."+s[:n-2]+"z", 0)), want)
			}
			checkRight(t, "type in a oneof", withFields(typed(1, s, 1)), want)
			checkRight(t, "key", withFields(api.FieldDecl{Card: 4, Key: s, Type: "T", Name: "a"}), want)
			checkRight(t, "key with a dot", withFields(api.FieldDecl{Card: 4, Key: "." + s[:n-2] + "z", Type: "T", Name: "a"}), want)
		}
		s := piece[:n]
		checkRight(t, "import", api.File{Imports: []string{s}}, want)
		checkRight(t, "import of any bytes", api.File{Imports: []string{strings.Repeat("\xff", n)}}, want)
		checkRight(t, "import of characters", api.File{Imports: []string{strings.Repeat("é", n)[:n]}}, want)
		checkRight(t, "message", api.File{Messages: []api.MessageDecl{{Name: s}}}, want)
		checkRight(t, "enum", api.File{Enums: []api.EnumDecl{{Name: s, Values: []api.EnumValue{{Name: "Z"}}}}}, want)
		checkRight(t, "value", inEnum(api.EnumDecl{Values: []api.EnumValue{{Name: s}}}), want)
		checkRight(t, "field", withFields(api.FieldDecl{Card: 1, Type: "T", Name: s}), want)
		checkRight(t, "oneof", inMessage(api.MessageDecl{Oneofs: []string{s}, Fields: []api.FieldDecl{typed(1, "T", 1)}}), want)
		checkRight(t, "gone", inMessage(api.MessageDecl{Gone: []string{s}}), want)
		checkRight(t, "gone of an enum", inEnum(api.EnumDecl{Gone: []string{s}}), want)
	}
}

func TestRefusedTypes(t *testing.T) { // P601: the words, at each place where they are refused and where they are not
	for _, place := range []struct {
		card, oneof int
		no          string
	}{
		{1, 0, "message enum oneof reserved optional repeated option extend extensions group required"},
		{1, 1, "option group optional repeated required oneof message enum reserved"},
		{2, 0, "group"}, {3, 0, "group"}, {4, 0, ""},
	} {
		for _, w := range append(strings.Fields(special), "Message", "groups", "grou", "GROUP", "option_", "a") {
			want := api.OK
			if strings.Contains(" "+place.no+" ", " "+w+" ") {
				want = api.ErrDecl
			}
			for _, behind := range []string{"", ".a", ".group", "." + w} {
				checkRight(t, fmt.Sprint(place.card, place.oneof, w, behind), withFields(typed(place.card, w+behind, place.oneof)), want)
				checkRight(t, fmt.Sprint(place.card, place.oneof, ".", w, behind), withFields(typed(place.card, "."+w+behind, place.oneof)), api.OK)
				checkRight(t, fmt.Sprint(place.card, place.oneof, "a.", w, behind), withFields(typed(place.card, "a."+w+behind, place.oneof)), api.OK)
			}
			d := typed(place.card, "T", place.oneof)
			d.Name = w
			checkRight(t, "field "+w, withFields(d), api.OK)
			d = typed(4, "T", 0)
			d.Key = w
			checkRight(t, "key "+w, withFields(d), api.OK)
		}
	}
}

func TestRefusedValues(t *testing.T) { // P601: `option` and `reserved` name no value, but all else
	for _, w := range append(strings.Fields(special), "Option", "options", "optio", "RESERVED", "reserved_") {
		want := api.OK
		if w == "option" || w == "reserved" {
			want = api.ErrDecl
		}
		checkRight(t, "value "+w, inEnum(api.EnumDecl{Values: []api.EnumValue{{Name: w}}}), want)
		checkRight(t, "second value "+w, inEnum(api.EnumDecl{Values: []api.EnumValue{{Name: "A"}, {Name: w, Number: 1}}}), want)
		checkRight(t, "enum "+w, api.File{Enums: []api.EnumDecl{{Name: w, Values: []api.EnumValue{{Name: "Z"}}}}}, api.OK)
		checkRight(t, "message "+w, api.File{Package: w, Messages: []api.MessageDecl{{Name: w, Gone: []string{w}, Oneofs: []string{w}, Fields: []api.FieldDecl{typed(1, "T", 1)}}}}, api.OK)
	}
}

func TestNumbers(t *testing.T) { // P601: numbers at each bound and one past it
	edges := []int{-1 << 63, -1<<63 + 1, -4294967296, -2147483649, -2147483648, -2147483647, -536870912, -1, 0, 1, 2, 536870910, 536870911, 536870912, 2147483646, 2147483647, 2147483648, 4294967295, 4294967296, 4294967297, 1<<63 - 1}
	for _, n := range edges {
		for card := 1; card <= 4; card++ {
			d := typed(card, "T", 0)
			d.Number = n
			f := withFields(d)
			checkRight(t, fmt.Sprint("field ", n), f, modelRight(f))
		}
		d := typed(1, "T", 1)
		d.Number = n
		checkRight(t, fmt.Sprint("field of a oneof ", n), withFields(d), modelRight(withFields(d)))
		f := inEnum(api.EnumDecl{Values: []api.EnumValue{{Name: "A", Number: n}}})
		checkRight(t, fmt.Sprint("value ", n), f, modelRight(f))
		for _, to := range edges {
			row := []api.Range{{From: n, To: to}}
			f := inMessage(api.MessageDecl{Reserved: row})
			checkRight(t, fmt.Sprint("row ", row), f, modelRight(f))
			f = inEnum(api.EnumDecl{Reserved: row})
			checkRight(t, fmt.Sprint("row of an enum ", row), f, modelRight(f))
		}
	}
}

func TestCards(t *testing.T) { // P601: cards with and without a key, in a oneof and not
	for card := -2; card <= 6; card++ {
		for _, key := range []string{"", "string", ".a.b", "group", "1", "."} {
			for oneof := 0; oneof <= 1; oneof++ {
				d := api.FieldDecl{Card: card, Key: key, Type: "T", Name: "a", Number: 1, Oneof: oneof}
				ok := card >= 1 && card <= 3 && key == "" && (oneof == 0 || card == 1) || card == 4 && oneof == 0 && typeForm.MatchString(key)
				want := api.ErrDecl
				if ok {
					want = api.OK
				}
				checkRight(t, fmt.Sprint(d), withFields(d), want)
			}
		}
	}
}

func TestOneofs(t *testing.T) { // P601: all ways in which up to five fields are in up to three oneofs
	for _, way := range texts(5, "0", "1", "2", "3", "4", "-") {
		for n := 0; n <= 3; n++ {
			m := api.MessageDecl{}
			for i, c := range way {
				m.Fields = append(m.Fields, api.FieldDecl{Card: 1, Type: "T", Name: "a", Number: 7 - i, Oneof: strings.IndexRune("-01234", c) - 1})
			}
			for i := range n {
				m.Oneofs = append(m.Oneofs, []string{"b", "c", "a"}[i])
			}
			f := inMessage(m)
			want := api.OK
			if len(modelWrongs(f)) > 0 {
				want = api.ErrDecl
			}
			checkRight(t, fmt.Sprint(n, " oneofs, fields ", way), f, want)
		}
	}
}
