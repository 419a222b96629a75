package print_test

import (
	"fmt"
	"slices"
	"strings"
	"testing"

	"sigil/api"
	"sigil/print"
)

// declared counts the declarations.
func declared(f api.File) int {
	w := &wrongs{}
	w.file(f)
	return w.decls
}

// filled are declarations, with imports of one byte ahead, so that there are n of them.
func filled(f api.File, n int) api.File {
	f = copied(f)
	f.Imports = append(slices.Repeat([]string{"a"}, n-declared(f)), f.Imports...)
	return f
}

func TestDecls(t *testing.T) { // P601: MaxDecls declarations and one more, of each kind, in the file and inside
	base := whole()
	checkRight(t, "filled", filled(base, 4096), api.OK)
	checkRight(t, "overfilled", filled(base, 4097), api.ErrDecl)
	field := func(card int) func(m *api.MessageDecl) {
		return func(m *api.MessageDecl) { m.Fields = append(m.Fields, typed(card, "T", 0)) }
	}
	enum := api.EnumDecl{Name: "E", Values: []api.EnumValue{{Name: "Z"}}}
	more := inSpots(map[string]func(m *api.MessageDecl){
		"field": field(1), "optional": field(2), "list": field(3), "map": field(4),
		"field of a oneof": func(m *api.MessageDecl) { m.Fields = append(m.Fields, typed(1, "T", 3)) },
		"oneof": func(m *api.MessageDecl) {
			m.Fields, m.Oneofs = append(m.Fields, typed(1, "T", 4)), append(m.Oneofs, "r")
		},
		"message": func(m *api.MessageDecl) { m.Messages = append(m.Messages, api.MessageDecl{Name: "X"}) },
		"enum":    func(m *api.MessageDecl) { m.Enums = append(m.Enums, enum) },
		"row":     func(m *api.MessageDecl) { m.Reserved = append(m.Reserved, api.Range{From: 1, To: 9}) },
		"gone":    func(m *api.MessageDecl) { m.Gone = append(m.Gone, "r") },
	}, map[string]func(d *api.EnumDecl){
		"value": func(d *api.EnumDecl) { d.Values = append(d.Values, api.EnumValue{Name: "D"}) },
		"row":   func(d *api.EnumDecl) { d.Reserved = append(d.Reserved, api.Range{From: 1, To: 1}) },
		"gone":  func(d *api.EnumDecl) { d.Gone = append(d.Gone, "r") },
	})
	more = append(more,
		change{"import", func(f *api.File) { f.Imports = append(f.Imports, "b") }},
		change{"message of the file", func(f *api.File) { f.Messages = append(f.Messages, api.MessageDecl{Name: "X"}) }},
		change{"enum of the file", func(f *api.File) { f.Enums = append(f.Enums, enum) }},
	)
	for _, c := range more {
		n := 4095
		if strings.HasPrefix(c.name, "enum") || strings.HasPrefix(c.name, "oneof") { // a value, a field come with it
			n = 4094
		}
		f, _ := changed(filled(base, n), c)
		checkRight(t, c.name, f, api.OK)
		f, _ = changed(filled(base, n+1), c)
		checkRight(t, c.name+", one more", f, api.ErrDecl)
	}
	f := filled(base, 4096)
	f.Package = ""
	checkRight(t, "no package", f, api.OK)
	f.Package = "a.b.c" // is none
	checkRight(t, "a package", f, api.OK)
}

func TestDeclsOfOneKind(t *testing.T) { // P601: many of one kind: ErrDecl one above the bound, however long the text is
	for name, make := range map[string]func(n int) api.File{
		"imports":  func(n int) api.File { return api.File{Imports: slices.Repeat([]string{"a"}, n)} },
		"messages": func(n int) api.File { return api.File{Messages: slices.Repeat([]api.MessageDecl{{Name: "M"}}, n)} },
		"inner": func(n int) api.File {
			return inMessage(api.MessageDecl{Messages: slices.Repeat([]api.MessageDecl{{Name: "M"}}, n-1)})
		},
		"enums": func(n int) api.File {
			f := api.File{Enums: slices.Repeat([]api.EnumDecl{{Name: "E", Values: []api.EnumValue{{Name: "Z"}}}}, n/2)}
			f.Imports = slices.Repeat([]string{"a"}, n%2)
			return f
		},
		"fields": func(n int) api.File { return withFields(slices.Repeat([]api.FieldDecl{typed(1, "T", 0)}, n-1)...) },
		"maps":   func(n int) api.File { return withFields(slices.Repeat([]api.FieldDecl{typed(4, "T", 0)}, n-1)...) },
		"fields of a oneof": func(n int) api.File {
			return withFields(slices.Repeat([]api.FieldDecl{typed(1, "T", 1)}, n-2)...)
		},
		"oneofs": func(n int) api.File {
			var l []api.FieldDecl
			for o := range (n - 1) / 2 {
				l = append(l, typed(1, "T", o+1))
			}
			if n%2 == 0 {
				l = append(l, typed(1, "T", 0))
			}
			return withFields(l...)
		},
		"rows": func(n int) api.File {
			return inMessage(api.MessageDecl{Reserved: slices.Repeat([]api.Range{{From: 1, To: 1}}, n-1)})
		},
		"gone": func(n int) api.File { return inMessage(api.MessageDecl{Gone: slices.Repeat([]string{"g"}, n-1)}) },
		"values": func(n int) api.File {
			return inEnum(api.EnumDecl{Values: slices.Repeat([]api.EnumValue{{Name: "V"}}, n-1)})
		},
		"an enum's rows": func(n int) api.File {
			return inEnum(api.EnumDecl{Reserved: slices.Repeat([]api.Range{{From: 1, To: 2}}, n-2)})
		},
		"an enum's gone": func(n int) api.File { return inEnum(api.EnumDecl{Gone: slices.Repeat([]string{"g"}, n-2)}) },
	} {
		for n := 4090; n <= 4100; n++ {
			f := make(n)
			if declared(f) != n {
				t.Fatalf("%s: %d declarations, not %d", name, declared(f), n)
			}
			e := modelRight(f)
			if (e == api.ErrDecl) != (n > 4096) {
				t.Errorf("P601: %s: %d: %v", name, n, e)
			}
			if got := print.Right(f); got != e {
				t.Errorf("P601: %s: Right of %d is %v, want %v", name, n, got, e)
			}
		}
	}
}

func TestDepth(t *testing.T) { // P601: messages MaxDecl deep, and one deeper, in the first message and in another
	for n := 1; n <= 40; n++ {
		want := api.OK
		if n > 32 {
			want = api.ErrDecl
		}
		checkRight(t, fmt.Sprint(n, " deep"), api.File{Messages: []api.MessageDecl{deep(n)}}, want)
		checkRight(t, fmt.Sprint(n, " deep, last"), api.File{Messages: []api.MessageDecl{deep(1), deep(3), deep(n)}}, want)
		side := api.MessageDecl{Name: "S", Messages: []api.MessageDecl{deep(1), deep(n), deep(2)}}
		if n == 32 {
			want = api.ErrDecl
		}
		checkRight(t, fmt.Sprint(n+1, " deep, beside others"), api.File{Messages: []api.MessageDecl{side}}, want)
	}
	m := deep(32)
	last := &m
	for len(last.Messages) > 0 {
		last = &last.Messages[0]
	}
	last.Enums = []api.EnumDecl{{Name: "E", Values: []api.EnumValue{{Name: "Z"}}}}
	last.Oneofs, last.Fields = []string{"o"}, []api.FieldDecl{typed(1, "T", 1)}
	checkRight(t, "an enum and a oneof in the deepest", api.File{Messages: []api.MessageDecl{m}}, api.OK)
}

func TestMuch(t *testing.T) { // P1: what is far too much is told soon
	checkRight(t, "very deep", api.File{Messages: []api.MessageDecl{deep(1 << 16)}}, api.ErrDecl)
	m := api.MessageDecl{Name: "M"}
	for range 60 { // more messages than can be counted, in little memory
		m = api.MessageDecl{Name: "M", Messages: []api.MessageDecl{m, m, m}}
	}
	checkRight(t, "very many inside", api.File{Messages: []api.MessageDecl{m}}, api.ErrDecl)
	m = api.MessageDecl{Name: "M"}
	for range 31 {
		m = api.MessageDecl{Name: "M", Messages: []api.MessageDecl{m, m}}
	}
	checkRight(t, "very many inside, not too deep", api.File{Messages: []api.MessageDecl{m}}, api.ErrDecl)
	checkRight(t, "very many fields", inMessage(api.MessageDecl{Fields: make([]api.FieldDecl, 1<<20)}), api.ErrDecl)
	checkRight(t, "very many values", inEnum(api.EnumDecl{Values: make([]api.EnumValue, 1<<20)}), api.ErrDecl)
	huge := strings.Repeat("a.", 1<<24)
	checkRight(t, "a very long package", api.File{Package: huge}, api.ErrDecl)
	checkRight(t, "a very long type", withFields(typed(1, "."+huge, 0)), api.ErrDecl)
	checkRight(t, "a very long import", api.File{Imports: []string{huge}}, api.ErrDecl)
	if s, bad := print.Format(huge); s != "" || bad != (api.Fault{Err: api.ErrLong}) {
		t.Errorf("P606: a very long text: %.40q, %v", s, bad)
	}
	// All that is right is told, however long its text is.
	checkRight(t, "very long", api.File{Imports: slices.Repeat([]string{strings.Repeat("\xff", 255)}, 4096)}, api.ErrLong)
}

// ofLength are declarations whose text has n bytes: imports, of which some are longer.
func ofLength(n int) api.File {
	var f api.File
	left := n - len(begin)
	for left > 0 {
		k := min(255, left-11)
		if rest := left - 11 - k; rest > 0 && rest < 12 { // the last one needs a byte
			k -= 12
		}
		f.Imports = append(f.Imports, strings.Repeat("x", k))
		left -= 11 + k
	}
	return f
}

// padded are declarations with imports behind, so that their text has n bytes.
func padded(f api.File, n int) api.File {
	f = copied(f)
	f.Imports = append(f.Imports, ofLength(n-len(modelText(f))+len(begin)).Imports...)
	return f
}

func TestTextsOfMaxText(t *testing.T) { // P601: MaxText bytes, and one more
	for n := api.MaxText - 300; n <= api.MaxText+300; n++ {
		f := ofLength(n)
		if len(modelText(f)) != n {
			t.Fatalf("%d bytes, not %d", len(modelText(f)), n)
		}
		want := api.OK
		if n > api.MaxText {
			want = api.ErrLong
		}
		if e := print.Right(f); e != want {
			t.Errorf("P601: Right of a text of %d bytes is %v", n, e)
		}
	}
	for _, n := range []int{api.MaxText - 1, api.MaxText, api.MaxText + 1} {
		want := api.OK
		if n > api.MaxText {
			want = api.ErrLong
		}
		checkRight(t, fmt.Sprint(n, " bytes"), ofLength(n), want)
		for name, part := range map[string]func(s string) api.File{ // each kind of bytes counts
			"name":    func(s string) api.File { return api.File{Messages: []api.MessageDecl{{Name: s}}} },
			"package": func(s string) api.File { return api.File{Package: s} },
			"field":   func(s string) api.File { return withFields(api.FieldDecl{Card: 2, Type: "T", Name: s, Number: 12345}) },
			"type":    func(s string) api.File { return withFields(typed(3, "."+s[1:], 0)) },
			"map":     func(s string) api.File { return withFields(typed(4, s, 0)) },
			"oneof":   func(s string) api.File { return withFields(typed(1, s, 1), typed(1, "T", 1), typed(1, "T", 0)) },
			"gone": func(s string) api.File {
				return inMessage(api.MessageDecl{Gone: []string{"a", s}, Reserved: []api.Range{{From: 1, To: 2}}})
			},
			"enum": func(s string) api.File { return inEnum(api.EnumDecl{Values: []api.EnumValue{{Name: s, Number: -1}}}) },
			"deep": func(s string) api.File {
				f := api.File{Messages: []api.MessageDecl{deep(32)}}
				f.Messages[0].Name = s
				return f
			},
			"any import": func(s string) api.File { return api.File{Imports: []string{s, "\xff\x00\"é\n"}} },
		} {
			f := padded(part("ab"), n)
			if got := len(modelText(f)); got != n {
				t.Fatalf("%s: %d bytes, not %d", name, got, n)
			}
			checkRight(t, fmt.Sprint(name, " of ", n, " bytes"), f, want)
		}
	}
}

// ofTokens are declarations whose text has n tokens, as what part makes has some, and types of many names the others.
func ofTokens(n int, part api.File) api.File {
	f := copied(part)
	left := n - modelTokens(modelText(f)) - 4 // `message` name `{` `}`
	m := api.MessageDecl{Name: "D"}
	for left > 0 {
		k := min(left, 255+4) // dots and names, and four tokens more
		if rest := left - k; rest > 0 && rest < 5 {
			k -= 5
		}
		typ := strings.Repeat("a.", 200)[:k-4]
		if strings.HasSuffix(typ, ".") { // one token less than bytes, or a dot ahead
			typ = "." + typ[:len(typ)-1]
		}
		m.Fields = append(m.Fields, api.FieldDecl{Card: 1, Type: typ, Name: "a", Number: 1})
		left -= k
	}
	f.Messages = append(f.Messages, m)
	return f
}

func TestTextsOfMaxTokens(t *testing.T) { // P601: MaxTokens tokens, and one more, the end being one
	parts := map[string]api.File{
		"nothing": {}, "package": {Package: "a.b"}, "imports": {Imports: []string{"a b c", "\"", "\\\"; x", "//", "'"}},
		"rows":   inMessage(api.MessageDecl{Reserved: []api.Range{{From: 1, To: 1}, {From: 2, To: 3}, {From: 2, To: 536870911}}, Gone: []string{"a", "b"}}),
		"fields": withFields(typed(1, "T", 0), typed(2, ".T.u", 0), typed(3, "T", 0), typed(4, ".T", 0), typed(1, "T", 1), typed(1, "T", 1)),
		"enum":   inEnum(api.EnumDecl{Values: []api.EnumValue{{Name: "A", Number: -5}, {Name: "B", Number: 5}}, Reserved: []api.Range{{From: -5, To: -2}, {From: -1, To: -1}}}),
		"whole":  whole(),
	}
	for name, part := range parts {
		for n := api.MaxTokens - 2; n <= api.MaxTokens+3; n++ {
			f := ofTokens(n, part)
			text := modelText(f)
			if got := modelTokens(text); got != n || len(text) > api.MaxText {
				t.Fatalf("%s: %d tokens, not %d, and %d bytes", name, got, n, len(text))
			}
			want := api.OK
			if n > api.MaxTokens {
				want = api.ErrLong
			}
			checkRight(t, fmt.Sprint(name, ", ", n, " tokens"), f, want)
		}
	}
	f := ofTokens(api.MaxTokens+1, api.File{})
	f.Package = "."
	checkRight(t, "too many tokens, and a package", f, api.ErrDecl)
}
