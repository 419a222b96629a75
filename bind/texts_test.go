package bind_test

import (
	"fmt"
	"slices"
	"strings"
	"testing"

	"sigil/api"
	"sigil/bind"
)

// first is the first line of a canonical text.
const first = "syntax = \"proto3\";\n"

// textsAre looks at the texts of sources, byte by byte: names and texts in turn, without the first line.
func textsAre(t *testing.T, sources []api.Source, want ...string) {
	t.Helper()
	var l []api.Source
	for i := 0; i < len(want); i += 2 {
		l = append(l, api.Source{Name: want[i], Text: first + want[i+1]})
	}
	s := load(t, sources)
	if got := s.Texts(); !slices.Equal(got, l) {
		t.Errorf("P708: %q, want %q", got, l)
	}
	again(t, s)
}

// again looks that what a schema's texts declare is the same schema, in whatever order they are loaded.
func again(t *testing.T, s *bind.Schema) {
	t.Helper()
	want := told(s)
	l := s.Texts()
	for range 2 {
		other := load(t, l)
		if got := told(other); got != want {
			t.Errorf("P709: Load of the texts answers\n%s\nwant\n%s", got, want)
		}
		slices.Reverse(l)
	}
}

func TestTexts(t *testing.T) { // P708
	textsAre(t, nil)
	textsAre(t, texts("a", "package p;", "b", "import 'a';"))
	textsAre(t, texts("a", "message M { }"), ".", "message M {\n}\n")
	textsAre(t, texts("a", "package p.q; enum E { Z = 0; }"), "p.q", "package p.q;\nenum E {\n  Z = 0;\n}\n")
	textsAre(t, texts("x", "import 'y'; message A { b.B x = 2; int32 a = 1; reserved 9, 8; }", "y", "package b; import 'x'; message B { .A a = 1; enum E { Z = 0; } E e = 2; }"),
		".", "import \"b\";\nmessage A {\n  reserved 8 to 9;\n  int32 a = 1;\n  .b.B x = 2;\n}\n",
		"b", "package b;\nimport \".\";\nmessage B {\n  .A a = 1;\n  .b.B.E e = 2;\n  enum E {\n    Z = 0;\n  }\n}\n")
	textsAre(t, texts("a", `package p; message M { message N { N n = 2; M m = 1; } enum E { Z = 0; C = 5; B = -1; reserved "b", "a"; reserved 7, 6, 9 to max; }
		oneof o { string s = 9; E e = 3; } reserved "y", "x"; reserved 20 to 22, 10, 11 to 12; map<string, N> n = 4; oneof p { bool b = 1; } repeated bytes l = 8; optional double d = 2; }`),
		"p", `package p;
message M {
  reserved 10 to 12, 20 to 22;
  reserved "x", "y";
  oneof p {
    bool b = 1;
  }
  optional double d = 2;
  oneof o {
    .p.M.E e = 3;
    string s = 9;
  }
  map<string, .p.M.N> n = 4;
  repeated bytes l = 8;
  message N {
    .p.M m = 1;
    .p.M.N n = 2;
  }
  enum E {
    reserved 6 to 7, 9 to max;
    reserved "a", "b";
    Z = 0;
    B = -1;
    C = 5;
  }
}
`)
}

func TestTextsOfPackages(t *testing.T) { // P708: one source for each package that has types, with the imports that its fields need
	textsAre(t, texts(
		"1", "package z; import '2'; import '3'; import '4'; import '5'; import '6'; message M { map<int32, a.E> e = 1; b.N n = 2; } enum C { Z = 0; }",
		"2", "package a; enum E { Z = 0; } message Z { message Y { oneof o { X x = 1; } message X { .a.Z.Y y = 1; } } }",
		"3", "package b; import '1'; message N { z.C c = 1; }",
		"4", "package b; import '6'; message A { message In { repeated .R r = 1; } }",
		"5", "package none;",
		"6", "message R { message z { R.z a = 1; } R r = 1; }",
		"7", "package z.y; import '1'; enum A { Z = 0; } message B { int32 a = 1; M m = 2; }",
	),
		".", "message R {\n  .R r = 1;\n  message z {\n    .R.z a = 1;\n  }\n}\n",
		"a", "package a;\nmessage Z {\n  message Y {\n    oneof o {\n      .a.Z.Y.X x = 1;\n    }\n    message X {\n      .a.Z.Y y = 1;\n    }\n  }\n}\nenum E {\n  Z = 0;\n}\n",
		"b", "package b;\nimport \".\";\nimport \"z\";\nmessage A {\n  message In {\n    repeated .R r = 1;\n  }\n}\nmessage N {\n  .z.C c = 1;\n}\n",
		"z", "package z;\nimport \"a\";\nimport \"b\";\nmessage M {\n  map<int32, .a.E> e = 1;\n  .b.N n = 2;\n}\nenum C {\n  Z = 0;\n}\n",
		"z.y", "package z.y;\nimport \"z\";\nmessage B {\n  int32 a = 1;\n  .z.M m = 2;\n}\nenum A {\n  Z = 0;\n}\n",
	)
	var all, want []string // as many packages as there may be sources, each naming all others
	for i := range 16 {
		text, fields, imports := fmt.Sprintf("package p%c; ", 'a'+i), "", ""
		lines := ""
		for j := range 16 {
			if j != i {
				text += fmt.Sprintf("import 's%c'; ", 'a'+15-j)
				imports += fmt.Sprintf("import \"p%c\";\n", 'a'+j)
			}
			fields += fmt.Sprintf("p%c.M m%d = %d; ", 'a'+j, j, j+1)
			lines += fmt.Sprintf("  .p%c.M m%d = %d;\n", 'a'+j, j, j+1)
		}
		all = append([]string{fmt.Sprintf("s%c", 'a'+15-i), text + "message M { " + fields + " }"}, all...)
		want = append(want, fmt.Sprintf("p%c", 'a'+i), fmt.Sprintf("package p%c;\n", 'a'+i)+imports+"message M {\n"+lines+"}\n")
	}
	textsAre(t, texts(all...), want...)
}

func TestSpread(t *testing.T) { // P709: what is declared the same, however written and spread
	whole := load(t, texts("a", "package p; message A { B b = 1; message I { E e = 1; } } message B { A.I i = 2; bool c = 1; oneof o { E e = 3; } } enum E { Z = 0; Y = 1; }"))
	for _, l := range [][]api.Source{
		texts("x", "package p; enum E { Z = 0; Y = 1; } message B { oneof o { E e = 3; } bool c = 1; A.I i = 2; } message A { message I { p.E e = 1; } .p.B b = 1; }"),
		texts("x", "import 'z'; import 'y'; package p; message A { message I { E e = 1; } B b = 1; }", "y", "package p; enum E { Z = 0; Y = 1; }", "z", "import 'y'; import 'x'; package p; message B { A.I i = 2; bool c = 1; oneof o { E e = 3; } }"),
		whole.Texts(),
	} {
		if got, want := told(load(t, l)), told(whole); got != want {
			t.Errorf("P709: %q answers\n%s\nwant\n%s", l, got, want)
		}
	}
	again(t, whole)
	for _, l := range [][]api.Source{
		texts("a", "package p; message A { B b = 1; message I { E e = 1; } } message B { A.I i = 2; bool c = 1; oneof o { E e = 3; } } enum E { Z = 0; X = 1; }"),
		texts("a", "package p; message A { B b = 1; message I { E e = 1; } } message B { A.I i = 2; bool c = 1; E e = 3; } enum E { Z = 0; Y = 1; }"),
	} {
		if slices.Equal(load(t, l).Texts(), whole.Texts()) {
			t.Errorf("P708: what is declared otherwise has the same texts: %q", l)
		}
	}
}

// halves are two sources of the package q that declare these, one half each.
func halves(ahead string, l []string) []api.Source {
	n := len(l) / 2
	return texts("a", ahead+"package q;"+strings.Join(l[:n], ""), "b", ahead+"package q;"+strings.Join(l[n:], ""))
}

// bytesLong are sources whose one text has n bytes.
func bytesLong(n int) []api.Source {
	var l []string
	left := n - len(first+"package q;\n")
	for i := 0; left > 0; i++ {
		name := fmt.Sprintf("M%d_", i)
		length := len("message " + name + " {\n}\n")
		more := min(left-length, 200)
		if rest := left - length - more; rest > 0 && rest < 50 {
			more -= 50
		}
		l = append(l, "message "+name+strings.Repeat("m", more)+"{}")
		left -= length + more
	}
	return halves("", l)
}

func TestRoomOfBytes(t *testing.T) { // P701, round 7: a text of MaxText bytes and one more
	for n := 65530; n <= 65545; n++ {
		l := bytesLong(n)
		if n > 65536 {
			refused(t, "bytes", l, fault(api.ErrLong, 0, "q"))
			continue
		}
		s := load(t, l)
		if got := s.Texts(); len(got) != 1 || len(got[0].Text) != n {
			t.Fatalf("a text of another length: %d", len(got[0].Text))
		}
		if n == 65536 {
			again(t, s)
		}
	}
}

func TestRoomOfTokens(t *testing.T) { // P701, round 7: a text of MaxTokens tokens and one more
	messages := func(pairs, plain int, reserved ...string) []string {
		var l []string
		for i := range 4 {
			body := ""
			for j := i; j < pairs; j += 4 {
				body += fmt.Sprintf("map<bool,bool>a%d=%d;", j/4, j/4+1)
			}
			if i < plain {
				body += "bool b=1000;"
			}
			if i < len(reserved) {
				body += reserved[i]
			}
			l = append(l, fmt.Sprintf("message M%d{%s}", i, body))
		}
		return l
	}
	again(t, load(t, halves("", messages(1636, 0)))) // 4 + 3 + 4 * 4 + 1636 * 10 + 1
	refused(t, "tokens", halves("", messages(1635, 1, "reserved 9999;", "reserved 9999;")), fault(api.ErrLong, 0, "q"))
	load(t, halves("", messages(1635, 1, "reserved 9999;")))
	refused(t, "more tokens", halves("", messages(1637, 0)), fault(api.ErrLong, 0, "q"))
	if s := load(t, halves("", messages(1635, 1, "reserved 9999, 9998;"))); len(s.Texts()) != 1 { // one row then
		t.Errorf("P708: %q", s.Texts())
	}
	refused(t, "two rows", halves("", messages(1635, 1, "reserved 9999, 9997, 9995;")), fault(api.ErrLong, 0, "q"))
}

func TestRoomOfDeclarations(t *testing.T) { // P701, round 7: a text of MaxDecls declarations and one more, imports too
	rows := func(n, step int) string {
		var b strings.Builder
		for i := range n {
			fmt.Fprintf(&b, "%s%d", either(i == 0, "reserved ", ","), 1+i*step)
		}
		return b.String() + ";"
	}
	two := func(one, other int) []string {
		return []string{"message A{" + rows(one, 2) + "}", "message B{" + rows(other, 2) + "}"}
	}
	again(t, load(t, halves("", two(2047, 2047))))
	refused(t, "declarations", halves("", two(2048, 2047)), fault(api.ErrLong, 0, "q"))
	refused(t, "many declarations", halves("", two(4000, 4000)), fault(api.ErrLong, 0, "q"))
	load(t, halves("", []string{"message A{" + rows(4000, 1) + "}", "message B{" + rows(4000, 1) + "}"}))
	// A field and the import that it needs are one each.
	named := func(one, other int) []api.Source {
		l := two(one, other)
		l[0] = strings.Replace(l[0], "{", "{.C c=20001;", 1)
		return append(halves("import 'c';", l), api.Source{Name: "c", Text: begin + "message C { }"})
	}
	again(t, load(t, named(2047, 2045)))
	refused(t, "an import", named(2047, 2046), fault(api.ErrLong, 0, "q"))
}

func TestRoomOfPackages(t *testing.T) { // P701, round 7: the first package in rising order, whatever source it stands in
	body := "message " + strings.Repeat("n", 200) + " { message M { } " + numbered(400, "M a%[1]d=1%03[1]d;") + "}"
	for _, c := range []struct {
		packages []string // !: not too long
		want     string
	}{
		{[]string{"b", "a"}, "a"}, {[]string{"a", "b"}, "a"}, {[]string{"!a", "b"}, "b"}, {[]string{"b", "!a"}, "b"}, {[]string{"!", "b"}, "b"}, {[]string{"!z", "b.c", "b"}, "b"}, {[]string{"!", "!b", "c"}, "c"},
		{[]string{"b", ""}, ""}, {[]string{"", "b"}, ""}, {[]string{"!b", ""}, ""}, {[]string{"b", "B", "a.b"}, "B"},
	} {
		var l []string
		for i, name := range c.packages {
			name, short := strings.CutPrefix(name, "!")
			l = append(l, fmt.Sprint(i), either(name == "", "", "package "+name+";")+either(short, "message M { M m = 1; }", body))
		}
		if s, bad := bind.Load(texts(l...)); s != nil || bad != fault(api.ErrLong, 0, c.want) {
			t.Errorf("P701: %q: %+v", c.packages, bad)
		}
	}
}
