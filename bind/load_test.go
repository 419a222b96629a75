package bind_test

import (
	"fmt"
	"slices"
	"strconv"
	"strings"
	"testing"

	"sigil/api"
	"sigil/bind"
)

// begin stands ahead of every text.
const begin = "syntax = \"proto3\"; "

// answers is what a schema and its second reading both can be asked.
type answers interface {
	Messages() []string
	Enums() []string
	Message(name string) (api.Message, api.Errno)
	Enum(name string) (api.Enum, api.Errno)
	Field(name string, number int) (api.Field, api.Errno)
	Named(name, field string) (api.Field, api.Errno)
	Reach(name string) ([]string, api.Errno)
	Texts() []api.Source
}

// texts are sources of names and texts in turn, with the syntax ahead of each.
func texts(l ...string) []api.Source {
	var out []api.Source
	for i := 0; i < len(l); i += 2 {
		out = append(out, api.Source{Name: l[i], Text: begin + l[i+1]})
	}
	return out
}

// load loads sources that are right.
func load(t *testing.T, sources []api.Source) *bind.Schema {
	t.Helper()
	s, bad := bind.Load(sources)
	if s == nil || bad != (api.Fault{}) {
		t.Fatalf("P701: %.300q: %+v", sources, bad)
	}
	return s
}

// refused looks that sources have that fault, and no schema; the second reading says so too.
func refused(t *testing.T, name string, sources []api.Source, want api.Fault) {
	t.Helper()
	if s, bad := bind.Load(sources); s != nil || bad != want {
		t.Errorf("P701, P4: %s: %.300q: %+v, want %+v", name, sources, bad, want)
	}
	if _, bad := loadSecond(sources); bad != want {
		t.Errorf("%s: the second reading says %+v, want %+v", name, bad, want)
	}
}

// right looks that sources are loaded, and that the schema answers as the second reading does.
func right(t *testing.T, name string, sources []api.Source) {
	t.Helper()
	m, bad := loadSecond(sources)
	if m == nil {
		t.Fatalf("%s: the second reading says %+v", name, bad)
	}
	s := load(t, sources)
	if got, want := told(s), told(m); got != want {
		t.Errorf("%s: %.300q: answers\n%s\nwant\n%s", name, sources, got, want)
	}
}

// told are all answers as one text: of all names that there are, and of some that there are not.
func told(s answers) string {
	var b strings.Builder
	messages, enums := s.Messages(), s.Enums()
	fmt.Fprintf(&b, "%q %q %q\n", messages, enums, s.Texts())
	names := slices.Concat(messages, enums, []string{"", ".", "none", strings.Repeat("n", 255), strings.Repeat("n", 256)})
	if len(messages) > 0 {
		names = append(names, "."+messages[0], messages[0]+".", strings.ToUpper(messages[0]), messages[0]+"\x00")
	}
	for _, name := range names {
		m, e := s.Message(name)
		fmt.Fprintf(&b, "%q: %q %+v %q %+v %q %v\n", name, m.Name, m.Fields, m.Oneofs, m.Reserved, m.Gone, e)
		d, e := s.Enum(name)
		fmt.Fprintf(&b, "  %q %+v %+v %q %v\n", d.Name, d.Values, d.Reserved, d.Gone, e)
		l, e := s.Reach(name)
		fmt.Fprintf(&b, "  %q %v\n", l, e)
		tellFields(&b, s, name, m.Fields)
	}
	return b.String()
}

// tellFields tells what Field and Named answer of a type.
func tellFields(b *strings.Builder, s answers, name string, fields []api.Field) {
	numbers := []int{-1 << 63, -1, 0, 1, 2, 3, 536870911, 536870912, 1<<63 - 1}
	words := []string{"", "_", "a", "A", "aB", "a_b", "none", strings.Repeat("n", 255), strings.Repeat("n", 256)}
	for _, f := range fields {
		numbers = append(numbers, f.Number-1, f.Number, f.Number+1)
		words = append(words, f.Name, f.Json, f.Name+"_", "_"+f.Name, strings.ToUpper(f.Name))
	}
	for _, n := range numbers {
		f, e := s.Field(name, n)
		fmt.Fprintf(b, "  %d %+v %v\n", n, f, e)
	}
	for _, word := range words {
		f, e := s.Named(name, word)
		fmt.Fprintf(b, "  %q %+v %v\n", word, f, e)
	}
}

// numbered are n texts, made of a form with one number in it.
func numbered(n int, form string) string {
	var b strings.Builder
	for i := range n {
		fmt.Fprintf(&b, form, i)
	}
	return b.String()
}

func TestExamples(t *testing.T) { // P701 to P704: the chapter's examples of faults
	b := []string{"b", "package b; message B { }"}
	refused(t, "2", texts(append([]string{"a", "message A { b.B x = 1; }"}, b...)...), fault(api.ErrUnknown, 0, "A.x"))
	right(t, "2", texts(append([]string{"a", "import \"b\"; message A { b.B x = 1; }"}, b...)...))
	for _, c := range []struct {
		text string
		want api.Fault
	}{
		{"message M { int32 a = 1; int32 b = 1; }", fault(api.ErrFieldNumber, 0, "M.b")},
		{"message M { int32 a_b = 1; int32 aB = 2; }", fault(api.ErrJsonName, 0, "M.aB")},
		{"message M { int32 a = 19000; }", fault(api.ErrFieldNumber, 0, "M.a")},
		{"message M { reserved 5; int32 a = 5; }", fault(api.ErrReserved, 0, "M.a")},
		{"message M { map<bytes, int32> a = 1; }", fault(api.ErrMapKey, 0, "M.a")},
		{"message M { map<float, int32> a = 1; }", fault(api.ErrMapKey, 0, "M.a")},
		{"message M { map<E, int32> a = 1; } enum E { Z = 0; }", fault(api.ErrMapKey, 0, "M.a")},
		{"package a.b; message M { a x = 1; }", fault(api.ErrNoType, 0, "a.b.M.x")},
		{"enum E { A = 1; }", fault(api.ErrEnumValue, 0, "E")},
		{"enum E { A = 0; B = 2147483648; }", api.Fault{Err: api.ErrRange, At: len(begin) + 20}},
		{"enum E { A = 0; B = 0; }", fault(api.ErrEnumValue, 0, "E.B")},
		{"message M { M.N.K x = 1; message N { } }", fault(api.ErrUnknown, 0, "M.x")},
	} {
		refused(t, "an example", texts("a", c.text), c.want)
	}
	refused(t, "4", texts("a", "package a.b;", "b", "message a { }"), fault(api.ErrTwice, 1, "a"))
	refused(t, "6", texts("a", "import 'b'; package q; message N { } message M { N.K x = 1; }", "b", "message N { message K { } }"), fault(api.ErrUnknown, 0, "q.M.x"))
}

func TestSources(t *testing.T) { // P701, round 1
	many := func(n int) []api.Source {
		var l []api.Source
		for i := range n {
			l = append(l, api.Source{Name: strconv.Itoa(i), Text: begin})
		}
		return l
	}
	right(t, "none", nil)
	right(t, "an empty list", []api.Source{})
	right(t, "one", many(1))
	right(t, "MaxFiles", many(16))
	refused(t, "one more", many(17), api.Fault{Err: api.ErrLong})
	refused(t, "many more", many(1000), api.Fault{Err: api.ErrLong})
	refused(t, "17 without names", make([]api.Source, 17), api.Fault{Err: api.ErrLong})
	long := strings.Repeat("n", 255)
	right(t, "a long name", texts(long, "", "b", "import \""+long+"\";"))
	right(t, "any bytes", texts("\x00", "", "\xff\n", "", "a b", "", ".", "", "a", "import \"\\000\"; import '\\xff\\n'; import \"a b\"; import \".\";"))
	right(t, "names that begin alike", texts("a", "", "aa", "", "A", "", "a ", ""))
	for file := range 3 {
		l := texts("a", "", "b", "", "c", "")
		l[file].Name = ""
		refused(t, "an empty name", l, api.Fault{Err: api.ErrName, File: file})
		l[file].Name = long + "n"
		refused(t, "too long a name", l, api.Fault{Err: api.ErrLong, File: file})
	}
	refused(t, "twice", texts("a", "", "b", "", "a", ""), api.Fault{Err: api.ErrTwice, File: 2, Name: "a"})
	refused(t, "thrice", texts("a", "", "a", "", "a", ""), api.Fault{Err: api.ErrTwice, File: 1, Name: "a"})
	refused(t, "twice, alike in all", texts("a", "", "b", "", "b", ""), api.Fault{Err: api.ErrTwice, File: 2, Name: "b"})
	refused(t, "a long name twice", texts(long, "", "b", "", long, ""), api.Fault{Err: api.ErrTwice, File: 2, Name: long})
	refused(t, "too long twice", texts(long+"n", "", long+"n", ""), api.Fault{Err: api.ErrLong})
	refused(t, "empty twice", texts("", "", "", ""), api.Fault{Err: api.ErrName})
	refused(t, "twice, then empty", texts("a", "", "a", "", "", ""), api.Fault{Err: api.ErrTwice, File: 1, Name: "a"})
	refused(t, "too long, then twice, then empty", texts("a", "", long+"n", "", "a", "", "", ""), api.Fault{Err: api.ErrLong, File: 1})
	refused(t, "empty, then twice", texts("a", "", "", "", "a", ""), api.Fault{Err: api.ErrName, File: 1})
}

func TestParsed(t *testing.T) { // P701, round 2: parse's fault, with the source's place
	rows := begin + "enum E { Z = -1; " + numbered(4096, "reserved %d;")
	for _, c := range []struct {
		text string
		e    api.Errno
		at   int
	}{
		{"", api.ErrEnd, 0}, {"message", api.ErrSyntax, 0}, {begin + "message", api.ErrEnd, 26}, {begin + "service S {}", api.ErrWord, 19},
		{begin + "enum E { A = 0; B = 2147483648; }", api.ErrRange, 39}, {begin + "\xff", api.ErrCoding, 19}, {begin + "#", api.ErrChar, 19},
		{strings.Repeat(" ", 65537), api.ErrLong, 0}, {begin + strings.Repeat(";", 16384), api.ErrTokens, 16398}, {rows, api.ErrDecls, strings.Index(rows, "4094;")},
		{begin + strings.Repeat("message M {", 33), api.ErrNest, 371}, {begin + "enum E { }", api.ErrSyntax, 28}, {begin + "import \"\";", api.ErrSyntax, 26},
	} {
		for file := range 3 {
			l := texts("a", "", "b", "", "c", "")
			l[file].Text = c.text
			refused(t, "a text", l, api.Fault{Err: c.e, File: file, At: c.at})
			l[2].Text = "}"
			if file < 2 {
				refused(t, "two texts", l, api.Fault{Err: c.e, File: file, At: c.at})
			}
		}
	}
}

func TestImports(t *testing.T) { // P701, round 3
	for _, c := range []struct {
		l    []string
		file int
		name string
	}{
		{[]string{"a", `import "c";`, "b", ""}, 0, "c"},
		{[]string{"a", "", "b", `import "a"; import "c"; import "b";`}, 1, "c"},
		{[]string{"a", `import "a";`}, 0, "a"},
		{[]string{"a", "", "b", `import "a"; import "b"; import "c";`}, 1, "b"},
		{[]string{"a", "", "b", `import "a"; import "a";`}, 1, "a"},
		{[]string{"a", "", "b", `import "a"; import "c"; import "a";`, "c", ""}, 1, "a"},
		{[]string{"a", `import "b";`, "b", `import "a"; import "\141";`}, 1, "a"},
		{[]string{"a", `import "b"; import "c"; import "b"; import "d";`, "b", `import "d";`, "c", ""}, 0, "b"},
		{[]string{"a", `import "b"; import "A";`, "b", ""}, 0, "A"},
		{[]string{"a", `import "b"; import "b.proto";`, "b", ""}, 0, "b.proto"},
		{[]string{"a", `import "b"; import "` + strings.Repeat("n", 255) + `";`, "b", ""}, 0, strings.Repeat("n", 255)},
		{[]string{"a", `import "` + strings.Repeat("\\377", 255) + `";`}, 0, strings.Repeat("\xff", 255)},
	} {
		refused(t, "an import", texts(c.l...), api.Fault{Err: api.ErrImport, File: c.file, Name: c.name})
	}
	right(t, "a ring", texts("a", `import "b"; message A { B b = 1; }`, "b", `import "c"; message B { C c = 1; }`, "c", `import "a"; message C { A a = 1; }`))
	right(t, "two", texts("a", `import "b"; message A { B b = 1; }`, "b", `import "a"; message B { A a = 1; }`))
	right(t, "a later one, an earlier one", texts("a", `import "c";`, "b", `import "a"; import "c";`, "c", ``))
	right(t, "each two", texts("a", `import "b"; import "c";`, "b", `import "a"; import "c";`, "c", `import "a"; import "b";`))
}

func TestFullNames(t *testing.T) { // P701, round 4
	part := strings.Repeat("p", 100)
	for _, c := range []struct{ ahead, scope string }{{"", ""}, {"package " + part + "; ", part + "."}, {"package " + part + "." + part + ";", part + "." + part + "."}} {
		name := strings.Repeat("n", 254-len(c.scope))
		right(t, "a message of MaxName - 1", texts("a", c.ahead+"message "+name+" { }"))
		right(t, "an enum of MaxName - 1", texts("a", c.ahead+"enum "+name+" { Z = 0; }"))
		refused(t, "a longer message", texts("a", "", "b", c.ahead+"message "+name+"n { }"), api.Fault{Err: api.ErrLong, File: 1, Name: c.scope + name + "n"})
		refused(t, "a longer enum", texts("a", "", "b", c.ahead+"enum "+name+"n { Z = 0; }"), api.Fault{Err: api.ErrLong, File: 1, Name: c.scope + name + "n"})
		inner := name[2:]
		right(t, "in a message", texts("a", c.ahead+"message M { message "+inner+" { } }"))
		refused(t, "longer in a message", texts("a", c.ahead+"message M { message "+inner+"n { } }"), api.Fault{Err: api.ErrLong, Name: c.scope + "M." + inner + "n"})
		refused(t, "a longer enum in a message", texts("a", c.ahead+"message M { enum "+inner+"n { Z = 0; } }"), api.Fault{Err: api.ErrLong, Name: c.scope + "M." + inner + "n"})
		right(t, "fields and values have no such bound", texts("a", c.ahead+"message "+name+" { int32 "+strings.Repeat("f", 255)+" = 1; oneof "+strings.Repeat("o", 255)+" { int32 a = 2; } } enum E { "+strings.Repeat("v", 255)+" = 0; }"))
	}
	long := strings.Repeat("n", 255)
	refused(t, "too long ahead of twice", texts("a", "message "+long+" { } message "+long+" { }"), api.Fault{Err: api.ErrLong, Name: long})
	refused(t, "too long and a package part", texts("a", "package "+long+";", "b", "message "+long+" { }"), api.Fault{Err: api.ErrLong, File: 1, Name: long})
	refused(t, "in a package of MaxName", texts("a", "package "+long+"; message M { }"), api.Fault{Err: api.ErrLong, Name: long + ".M"})
	right(t, "a package of MaxName without types", texts("a", "package "+long+";"))
	deep := strings.Repeat("message "+strings.Repeat("d", 200)+" { ", 32)
	refused(t, "deep", texts("a", deep+strings.Repeat("}", 32)), api.Fault{Err: api.ErrLong, Name: strings.Repeat("d", 200) + "." + strings.Repeat("d", 200)})
}

func TestTwice(t *testing.T) { // P701, round 4: names that stand twice, or are package parts
	for _, c := range []struct {
		l    []string
		file int
		name string
	}{
		{[]string{"a", "message M { } message M { }"}, 0, "M"},
		{[]string{"a", "message M { } enum M { Z = 0; }"}, 0, "M"},
		{[]string{"a", "enum M { Z = 0; } enum M { Z = 0; }"}, 0, "M"},
		{[]string{"a", "enum M { Z = 0; } message M { }"}, 0, "M"},
		{[]string{"a", "message M { message N { } message N { } }"}, 0, "M.N"},
		{[]string{"a", "message M { message N { } enum N { Z = 0; } }"}, 0, "M.N"},
		{[]string{"a", "message M { enum N { Z = 0; } enum N { Z = 0; } }"}, 0, "M.N"},
		{[]string{"a", "package p; message M { }", "b", "package p; message M { }"}, 1, "p.M"},
		{[]string{"a", "package p; message M { }", "b", "package p; enum M { Z = 0; }"}, 1, "p.M"},
		{[]string{"a", "package p; enum M { Z = 0; }", "b", "package p; message K { } message M { }"}, 1, "p.M"},
		{[]string{"a", "package p; message M { message K { } }", "b", "package p.M; message K { }"}, 0, "p.M"},
		{[]string{"a", "package a.b;", "b", "message a { }"}, 1, "a"},
		{[]string{"a", "message a { }", "b", "package a.b;"}, 0, "a"},
		{[]string{"a", "package a; message b { }", "b", "package a.b.c;"}, 0, "a.b"},
		{[]string{"a", "package a; enum b { Z = 0; }", "b", "package a.b;"}, 0, "a.b"},
		{[]string{"a", "message a { message b { } }", "b", "package a.b;"}, 0, "a"},
		{[]string{"a", "package p; message a { }", "b", "message p { }"}, 1, "p"},
		{[]string{"a", "package p.p; message p { }", "b", "package p; message p { }"}, 1, "p.p"},
	} {
		refused(t, "a name", texts(c.l...), api.Fault{Err: api.ErrTwice, File: c.file, Name: c.name})
	}
	right(t, "alike in other scopes", texts("a", "package p; message M { message M { message M { } enum N { M = 0; } } message N { } } message N { } enum E { M = 0; }", "b", "message M { } message N { } enum E { M = 0; N = 1; }", "c", "package p.q; message M { }", "d", "package q.p; message M { }"))
	right(t, "a message as the last name of its package", texts("a", "package p; message p { message p { } }"))
	right(t, "parts that begin alike", texts("a", "package ab.cd;", "b", "message a { message b { } } message abc { } message b { } message cd { }", "c", "package ab; message c { } message cde { }"))
	right(t, "one package, many sources", texts("a", "package p.q; message A { }", "b", "package p.q; message B { }", "c", "package p; message C { }"))
}

func TestTypes(t *testing.T) { // P701, round 4: MaxTypes and one more
	messages, enums := numbered(256, "message M%d { }"), numbered(128, "enum E%d { Z = 0; }")
	inner := "message O { " + numbered(100, "message M%d { }") + numbered(27, "enum E%d { Z = 0; }") + "}"
	right(t, "MaxTypes", texts("a", messages+enums, "b", inner))
	last := api.Fault{Err: api.ErrTypes, Name: "X"}
	for _, x := range []string{"message X { }", "enum X { Z = 0; }"} {
		last.File = 1
		refused(t, "one more", texts("a", messages+enums+inner, "b", x), last)
		refused(t, "and more", texts("a", messages+enums+inner, "b", x+" enum Y { Z = 0; } "), last)
		last.File = 0
		refused(t, "one more in one source", texts("a", strings.Replace(messages+enums+inner, "enum E0 ", x+" enum E0 ", 1), "b", ""), fault(api.ErrTypes, 0, "E127"))
		refused(t, "one more inside", texts("a", messages+enums+strings.Replace(inner, "message O {", "message O { "+x, 1)), fault(api.ErrTypes, 0, "E127"))
	}
	refused(t, "twice ahead of too many", texts("a", messages+enums+inner, "b", "enum E0 { Z = 0; }"), fault(api.ErrTwice, 1, "E0"))
	refused(t, "too long ahead of too many", texts("a", messages+enums+inner, "b", "message "+strings.Repeat("n", 255)+" { }"), fault(api.ErrLong, 1, strings.Repeat("n", 255)))
	refused(t, "a part ahead of too many", texts("a", messages+enums+inner, "b", "message p { }", "c", "package p;"), fault(api.ErrTwice, 1, "p"))
}

// fault is a fault about a name in a source.
func fault(e api.Errno, file int, name string) api.Fault {
	return api.Fault{Err: e, File: file, Name: name}
}
