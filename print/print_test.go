package print_test

import (
	"strings"
	"testing"

	"sigil/api"
	"sigil/parse"
	"sigil/print"
)

// begin is the first line of every text.
const begin = "syntax = \"proto3\";\n"

// inMessage are declarations of one message M.
func inMessage(m api.MessageDecl) api.File {
	m.Name = "M"
	return api.File{Messages: []api.MessageDecl{m}}
}

// inEnum are declarations of one enum E, with a value if it has none.
func inEnum(d api.EnumDecl) api.File {
	d.Name = "E"
	if d.Values == nil {
		d.Values = []api.EnumValue{{Name: "Z"}}
	}
	return api.File{Enums: []api.EnumDecl{d}}
}

// withFields are declarations of a message M with these fields, and as many oneofs as they name.
func withFields(l ...api.FieldDecl) api.File {
	m := api.MessageDecl{Fields: l}
	for _, d := range l {
		for len(m.Oneofs) < d.Oneof {
			m.Oneofs = append(m.Oneofs, "o")
		}
	}
	return inMessage(m)
}

// typed is a field of that type.
func typed(card int, typ string, oneof int) api.FieldDecl {
	d := api.FieldDecl{Card: card, Type: typ, Name: "a", Number: 1, Oneof: oneof}
	if card == api.CMap {
		d.Key = "string"
	}
	return d
}

// checkRight looks that all calls answer e for the declarations, with zero values beside an error; else that they have the text that the model tells, which parse reads back.
func checkRight(t *testing.T, name string, f api.File, e api.Errno) {
	t.Helper()
	if got := print.Right(f); got != e {
		t.Errorf("P601: %s: Right is %v, want %v", name, got, e)
	}
	text, got := print.Text(f)
	if got != e || e != api.OK && text != "" {
		t.Errorf("P602, P4: %s: Text is %.40q, %v, want %v", name, text, got, e)
	}
	g, got := print.Sorted(f)
	if got != e || e != api.OK && !same(g, api.File{}) {
		t.Errorf("P604, P4: %s: Sorted is %v, want %v", name, got, e)
	}
	if e != api.OK {
		return
	}
	if want := modelText(f); text != want {
		t.Errorf("P602: %s: Text is\n%s\nwant\n%s", name, text, want)
	}
	if h, bad := parse.Parse(text); bad != (api.Fault{}) || !same(h, f) {
		t.Errorf("P603: %s: parse.Parse of the text tells %+v, %v", name, h, bad)
	}
	if want := modelSorted(f); !same(g, want) {
		t.Errorf("P604: %s: Sorted is\n%+v\nwant\n%+v", name, g, want)
	}
}

// checkText looks that declarations have that text, and that it is read back.
func checkText(t *testing.T, f api.File, want string) {
	t.Helper()
	if text, e := print.Text(f); text != want || e != api.OK {
		t.Errorf("P602: Text is %v\n%s\nwant\n%s", e, text, want)
	}
	checkRight(t, want, f, api.OK)
}

const (
	compact   = "syntax='proto3';package p;message M{oneof o{int32 a=3;string b=1;}map<string,.p.M>m=2;reserved 5,6,9 to max;reserved \"q\";enum E{Z=0;N=-1;}}"
	formatted = begin + "package p;\nmessage M {\n  reserved 5, 6, 9 to max;\n  reserved \"q\";\n  oneof o {\n    int32 a = 3;\n    string b = 1;\n  }\n  map<string, .p.M> m = 2;\n  enum E {\n    Z = 0;\n    N = -1;\n  }\n}\n"
	sorted    = begin + "package p;\nmessage M {\n  reserved 5 to 6, 9 to max;\n  reserved \"q\";\n  oneof o {\n    string b = 1;\n    int32 a = 3;\n  }\n  map<string, .p.M> m = 2;\n  enum E {\n    Z = 0;\n    N = -1;\n  }\n}\n"
)

func TestExamples(t *testing.T) { // P601 to P606: the chapter's examples
	checkText(t, api.File{}, begin)
	if s, bad := print.Format(compact); s != formatted || bad != (api.Fault{}) {
		t.Errorf("P606: example 2: %v\n%s", bad, s)
	}
	if s, bad := print.Canon(compact); s != sorted || bad != (api.Fault{}) {
		t.Errorf("P606: example 3: %v\n%s", bad, s)
	}
	for _, c := range []struct {
		name string
		f    api.File
		e    api.Errno
	}{
		{"a oneof apart", withFields(typed(1, "int32", 1), typed(1, "int32", 0), typed(1, "int32", 1)), api.ErrDecl},
		{"a oneof without a field", inMessage(api.MessageDecl{Oneofs: []string{"o"}}), api.ErrDecl},
		{"optional, single", withFields(typed(1, "optional", 0)), api.ErrDecl},
		{"optional, optional", withFields(typed(2, "optional", 0)), api.OK},
		{"map", withFields(typed(1, "map", 0)), api.OK},
		{".optional", withFields(typed(1, ".optional", 0)), api.OK},
		{"a row that falls", inMessage(api.MessageDecl{Reserved: []api.Range{{From: 5, To: 4}}}), api.ErrDecl},
		{"the value reserved", inEnum(api.EnumDecl{Values: []api.EnumValue{{Name: "reserved"}}}), api.ErrDecl},
		{"the field reserved", withFields(api.FieldDecl{Card: 1, Type: "a", Name: "reserved"}), api.OK},
		{"a..b", api.File{Package: "a..b"}, api.ErrDecl},
	} {
		checkRight(t, "example 4: "+c.name, c.f, c.e)
	}
	if s, bad := print.Format("syntax"); s != "" || bad != (api.Fault{Err: api.ErrEnd, At: 6}) {
		t.Errorf("P606: example 5: %q, %v", s, bad)
	}
	f, e := print.Sorted(inEnum(api.EnumDecl{Values: []api.EnumValue{{Name: "A"}, {Name: "B", Number: 2}, {Name: "C", Number: -1}}}))
	if want := inEnum(api.EnumDecl{Values: []api.EnumValue{{Name: "A"}, {Name: "C", Number: -1}, {Name: "B", Number: 2}}}); e != api.OK || !same(f, want) {
		t.Errorf("P604: example 6: %+v, %v", f, e)
	}
	f, e = print.Sorted(api.File{Imports: []string{"b", "a", "b"}})
	if e != api.OK || !same(f, api.File{Imports: []string{"a", "b", "b"}}) {
		t.Errorf("P604: example 6: %+v, %v", f, e)
	}
}

func TestTextOfFile(t *testing.T) { // P602
	checkText(t, api.File{Package: "p"}, begin+"package p;\n")
	checkText(t, api.File{Package: "a.b._9"}, begin+"package a.b._9;\n")
	checkText(t, api.File{Imports: []string{"b", "a", "b"}}, begin+"import \"b\";\nimport \"a\";\nimport \"b\";\n")
	checkText(t, api.File{Imports: []string{"x.proto", " ", "'", "\"", "\\", "\n\r\t", "\x00\x017", "\x7f", "é", "\xff\xc3", "//", "/*"}}, begin+
		"import \"x.proto\";\nimport \" \";\nimport \"'\";\nimport \"\\\"\";\nimport \"\\\\\";\nimport \"\\n\\r\\t\";\nimport \"\\000\\0017\";\nimport \"\\177\";\nimport \"é\";\nimport \"\\377\\303\";\nimport \"//\";\nimport \"/*\";\n")
	checkText(t, api.File{Package: "p", Imports: []string{"x"}, Messages: []api.MessageDecl{{Name: "B"}, {Name: "A"}}, Enums: []api.EnumDecl{{Name: "D", Values: []api.EnumValue{{Name: "Z"}}}, {Name: "C", Values: []api.EnumValue{{Name: "Y"}}}}}, begin+
		"package p;\nimport \"x\";\nmessage B {\n}\nmessage A {\n}\nenum D {\n  Z = 0;\n}\nenum C {\n  Y = 0;\n}\n")
}

func TestTextOfMessage(t *testing.T) { // P602
	checkText(t, inMessage(api.MessageDecl{}), begin+"message M {\n}\n")
	checkText(t, inMessage(api.MessageDecl{Reserved: []api.Range{{From: 7, To: 7}}}), begin+"message M {\n  reserved 7;\n}\n")
	checkText(t, inMessage(api.MessageDecl{Gone: []string{"q"}}), begin+"message M {\n  reserved \"q\";\n}\n")
	checkText(t, inMessage(api.MessageDecl{Gone: []string{"q", "to", "q"}, Reserved: []api.Range{{From: 9, To: 12}, {From: 1, To: 1}, {From: 9, To: 12}}}), begin+"message M {\n  reserved 9 to 12, 1, 9 to 12;\n  reserved \"q\", \"to\", \"q\";\n}\n")
	checkText(t, inMessage(api.MessageDecl{Fields: []api.FieldDecl{
		{Card: 1, Type: "int32", Name: "b", Number: 2}, {Card: 2, Type: ".p.M", Name: "optional", Number: 0}, {Card: 3, Type: "a.b", Name: "repeated", Number: 2147483647}, {Card: 4, Key: "k", Type: ".t", Name: "map", Number: 2}, {Card: 4, Key: ".k.l", Type: "t.u", Name: "m", Number: 1},
	}}), begin+"message M {\n  int32 b = 2;\n  optional .p.M optional = 0;\n  repeated a.b repeated = 2147483647;\n  map<k, .t> map = 2;\n  map<.k.l, t.u> m = 1;\n}\n")
	checkText(t, inMessage(api.MessageDecl{
		Oneofs: []string{"o", "p", "o"},
		Fields: []api.FieldDecl{{Card: 1, Type: "A", Name: "a", Number: 9, Oneof: 1}, {Card: 1, Type: "B", Name: "b", Number: 8, Oneof: 2}, {Card: 1, Type: ".C.d", Name: "c", Number: 7, Oneof: 2}, {Card: 3, Type: "D", Name: "d", Number: 6}, {Card: 1, Type: "D", Name: "d", Number: 6, Oneof: 3}},
	}), begin+"message M {\n  oneof o {\n    A a = 9;\n  }\n  oneof p {\n    B b = 8;\n    .C.d c = 7;\n  }\n  repeated D d = 6;\n  oneof o {\n    D d = 6;\n  }\n}\n")
	checkText(t, inMessage(api.MessageDecl{
		Enums:    []api.EnumDecl{{Name: "E", Values: []api.EnumValue{{Name: "Z"}}, Gone: []string{"g"}}},
		Messages: []api.MessageDecl{{Name: "N", Messages: []api.MessageDecl{{Name: "O", Oneofs: []string{"o"}, Fields: []api.FieldDecl{typed(1, "t", 1)}, Reserved: []api.Range{{From: 1, To: 2}}}}, Fields: []api.FieldDecl{typed(2, "t", 0)}}, {Name: "L"}},
		Fields:   []api.FieldDecl{typed(3, "t", 0)},
	}), begin+"message M {\n  repeated t a = 1;\n  message N {\n    optional t a = 1;\n    message O {\n      reserved 1 to 2;\n      oneof o {\n        t a = 1;\n      }\n    }\n  }\n  message L {\n  }\n  enum E {\n    reserved \"g\";\n    Z = 0;\n  }\n}\n")
}

func TestTextOfEnum(t *testing.T) { // P602
	checkText(t, inEnum(api.EnumDecl{}), begin+"enum E {\n  Z = 0;\n}\n")
	checkText(t, inEnum(api.EnumDecl{Values: []api.EnumValue{{Name: "B", Number: 2147483647}, {Name: "A", Number: -2147483648}, {Name: "to", Number: -1}, {Name: "B", Number: 10}}}), begin+"enum E {\n  B = 2147483647;\n  A = -2147483648;\n  to = -1;\n  B = 10;\n}\n")
	checkText(t, inEnum(api.EnumDecl{Gone: []string{"reserved", "a"}, Reserved: []api.Range{{From: -5, To: -2}, {From: -1, To: -1}, {From: -3, To: 0}, {From: 0, To: 0}}}), begin+"enum E {\n  reserved -5 to -2, -1, -3 to 0, 0;\n  reserved \"reserved\", \"a\";\n  Z = 0;\n}\n")
}

func TestTextOfRows(t *testing.T) { // P602: where `max` stands, in a message and in an enum, and where it does not
	for _, c := range []struct {
		from, to int
		message  string // none, if it may not be there
		enum     string
	}{
		{1, 536870911, "1 to max", "1 to 536870911"}, {536870910, 536870911, "536870910 to max", "536870910 to 536870911"}, {536870911, 536870911, "536870911", "536870911"}, {1, 536870910, "1 to 536870910", "1 to 536870910"}, {1, 1, "1", "1"}, {1, 2, "1 to 2", "1 to 2"},
		{1, 2147483647, "", "1 to max"}, {2147483646, 2147483647, "", "2147483646 to max"}, {2147483647, 2147483647, "", "2147483647"}, {-2147483648, 2147483647, "", "-2147483648 to max"}, {1, 2147483646, "", "1 to 2147483646"}, {-2147483648, -2147483648, "", "-2147483648"}, {-2147483648, -2147483647, "", "-2147483648 to -2147483647"}, {536870911, 2147483647, "", "536870911 to max"}, {0, 0, "", "0"}, {-1, 0, "", "-1 to 0"},
		{536870911, 536870912, "", "536870911 to 536870912"},
	} {
		rows := []api.Range{{From: c.from, To: c.to}}
		if c.message == "" {
			checkRight(t, c.enum+" in a message", inMessage(api.MessageDecl{Reserved: rows}), api.ErrDecl)
		} else {
			checkText(t, inMessage(api.MessageDecl{Reserved: rows}), begin+"message M {\n  reserved "+c.message+";\n}\n")
		}
		checkText(t, inEnum(api.EnumDecl{Reserved: rows}), begin+"enum E {\n  reserved "+c.enum+";\n  Z = 0;\n}\n")
	}
}

func TestMade(t *testing.T) { // P601 to P605: declarations made by chance
	for seed := range int64(3000) {
		k := newMaker(seed)
		f := k.file()
		checkRight(t, "made", f, api.OK)
		g, _ := print.Sorted(f)
		if h, e := print.Sorted(g); e != api.OK || !same(g, h) {
			t.Errorf("P605: Sorted of %+v, which Sorted told, is %v, %+v", g, e, h)
		}
		if k.once {
			other := k.shuffled(f)
			if h, e := print.Sorted(other); e != api.OK || !same(g, h) {
				t.Errorf("P605: Sorted of\n%s\nin another order,\n%s\nis %v\n%s\nwant\n%s", modelText(f), modelText(other), e, modelText(h), modelText(g))
			}
		}
		if t.Failed() {
			return
		}
	}
}

func TestUnlike(t *testing.T) { // P603: unlike declarations have unlike texts
	texts := map[string]api.File{}
	for seed := range int64(2000) {
		k := newMaker(2*seed + 1)
		f := api.File{Messages: []api.MessageDecl{k.message(5)}}
		if seed%2 == 0 {
			f = api.File{Enums: []api.EnumDecl{k.enum()}}
		}
		text, e := print.Text(f)
		if g, there := texts[text]; e != api.OK || there && !same(f, g) {
			t.Errorf("P603: %+v and %+v have one text", f, g)
		}
		texts[text] = f
	}
	if len(texts) < 1000 {
		t.Errorf("only %d texts", len(texts))
	}
}

func TestAgain(t *testing.T) { // P3: the same again, whatever was asked in between
	f, _ := parse.Parse(compact)
	other := api.File{Package: "other", Imports: []string{strings.Repeat("x", 255)}}
	for range 3 {
		if text, e := print.Text(f); text != formatted || e != api.OK {
			t.Errorf("P3: Text: %v\n%s", e, text)
		}
		print.Text(other)
		print.Right(api.File{Package: "."})
		print.Format("syntax")
		if g, e := print.Sorted(f); modelText(g) != sorted || e != api.OK {
			t.Errorf("P3: Sorted: %v %+v", e, g)
		}
		print.Sorted(other)
		if s, bad := print.Canon(compact); s != sorted || bad != (api.Fault{}) {
			t.Errorf("P3: Canon: %v\n%s", bad, s)
		}
		if s, bad := print.Format(compact); s != formatted || bad != (api.Fault{}) {
			t.Errorf("P3: Format: %v\n%s", bad, s)
		}
	}
}
