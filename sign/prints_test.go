package sign_test

import (
	"bytes"
	"fmt"
	"strings"
	"testing"

	"sigil/api"
	"sigil/bind"
	"sigil/sign"
)

// unlike looks whether no two digests are the same.
func unlike(t *testing.T, what string, l [][]byte) {
	t.Helper()
	met := map[string]int{}
	for i, d := range l {
		if k, ok := met[string(d)]; ok {
			t.Errorf("%s: %d and %d have one print", what, k, i)
		}
		met[string(d)] = i
	}
}

func TestSchemaOfTexts(t *testing.T) { // P1601: the names and canonical texts of the packages, in their order
	for _, texts := range [][]string{
		nil,
		{""},
		{"package q;", "package r;"},
		{"message M { }"},
		{small},
		{"package z; enum E { A = 0; }", `package a; import "f0"; message M { z.E e = 1; }`, "message Q { }"},
		{"package a; message M { }", "package a.b; message M { }", "package a; message N { }"},
		{wide()},
	} {
		s := load(t, texts...)
		if got, want := sign.Schema(s), secondSchema(s); !bytes.Equal(got, want) {
			t.Errorf("P1601: Schema of %.80q = %x, want %x", texts, got, want)
		}
	}
	s := load(t, `package z; import "f1"; message M { .N n = 1; }`, "message N { }")
	want := domain("sigil.schema", []byte("."), []byte(lines(`syntax = "proto3";`, "message N {", "}")), []byte("z"), []byte(lines(`syntax = "proto3";`, "package z;", `import ".";`, "message M {", "  .N n = 1;", "}")))
	if got := sign.Schema(s); !bytes.Equal(got, want) {
		t.Errorf("P1601: Schema = %x, want %x", got, want)
	}
}

func TestSameSchemas(t *testing.T) { // P1601: what declares the same has one print, in whatever order, files, blanks
	for i, l := range [][][]string{
		{{""}, nil, {"package p;"}, {"package p; ;", "package q.r; // nothing"}},
		{{"message M { int32 a = 1; N b = 2; } message N { }"}, {"message N { } message M { .N b = 2; int32 a = 1; }"}, {`import "f1"; message M { N b = 2; int32 a = 1; }`, "message N { ; }"}},
		{{"message M { reserved 5, 6, 8 to 9; reserved 'b', 'a'; }"}, {"message M { reserved 8, 9; reserved 'a'; reserved 5 to 6; reserved 'b'; }"}},
		{{"enum E { A = 0; B = 1; C = -1; reserved 7; }"}, {"enum E { A = 0; reserved 7 to 7; C = -0x1; B = 01; }"}},
		{{"message M { oneof o { int32 a = 1; bool b = 9; } string c = 5; oneof p { int32 d = 2; } }"}, {"message M { oneof p { int32 d = 2; } string c = 5; oneof o { bool b = 9; int32 a = 1; } }"}},
		{{"package p.q; message M { message N { M m = 1; } N n = 1; enum E { Z = 0; } E e = 2; }"}, {"package p.q; message M { p.q.M.E e = 2; enum E { Z = 0; } .p.q.M.N n = 1; message N { q.M m = 1; } }"}},
	} {
		want := sign.Schema(load(t, l[0]...))
		for _, texts := range l[1:] {
			if got := sign.Schema(load(t, texts...)); !bytes.Equal(got, want) {
				t.Errorf("P1601: row %d: %.200q has another print", i, texts)
			}
		}
	}
	for seed := range int64(300) {
		m := newMaker(seed)
		p := m.packs()
		first, other := loaded(t, m.sources(p)), loaded(t, m.sources(p))
		if !bytes.Equal(sign.Schema(first), sign.Schema(other)) {
			t.Fatalf("P1601: seed %d: the same in another order has another print", seed)
		}
		if !bytes.Equal(sign.Schema(first), sign.Schema(loaded(t, first.Texts()))) || !bytes.Equal(sign.Schema(first), secondSchema(first)) {
			t.Fatalf("P1601: seed %d: the canonical texts have another print", seed)
		}
		for _, name := range first.Messages() {
			a, e := sign.Type(first, name)
			b, bad := sign.Type(other, name)
			if e != api.OK || bad != api.OK || !bytes.Equal(a, b) {
				t.Fatalf("P1602: seed %d: Type(%q): %v, %v: the same in another order has another print", seed, name, e, bad)
			}
			prints(t, first, name, secondType(first, name))
		}
	}
}

// variants are schemas that each say something else of the type M.
var variants = []string{
	"message M { }",
	"message M { int32 a = 1; }",
	"message M { int32 b = 1; }",
	"message M { int32 a = 2; }",
	"message M { int64 a = 1; }",
	"message M { optional int32 a = 1; }",
	"message M { repeated int32 a = 1; }",
	"message M { oneof o { int32 a = 1; } }",
	"message M { oneof p { int32 a = 1; } }",
	"message M { map<int32, int32> a = 1; }",
	"message M { map<int64, int32> a = 1; }",
	"message M { map<int32, int64> a = 1; }",
	"message M { M a = 1; }",
	"message M { N a = 1; } message N { }",
	"message M { N a = 1; } message N { N a = 1; }",
	"message M { N a = 1; } enum N { Z = 0; }",
	"message M { N a = 1; } enum N { Y = 0; }",
	"message M { N a = 1; } enum N { Z = 0; A = 1; }",
	"message M { N a = 1; } enum N { Z = 0; A = -1; }",
	"message M { N a = 1; } enum N { Z = 0; reserved 1; }",
	"message M { N a = 1; } enum N { Z = 0; reserved 'A'; }",
	"message M { N a = 1; message N { } }",
	"message M { N a = 1; enum N { Z = 0; } }",
	"message M { reserved 1; }",
	"message M { reserved 1 to 2; }",
	"message M { reserved 'a'; }",
	"message M { int32 a = 1; int32 b = 2; }",
	"message M { int32 b = 1; int32 a = 2; }",
	"message M { oneof o { int32 a = 1; int32 b = 2; } }",
	"message M { oneof o { int32 a = 1; } oneof p { int32 b = 2; } }",
}

func TestUnlikeSchemas(t *testing.T) { // P1601, P1602: what does not declare the same has unlike prints
	var schemas, types [][]byte
	for _, text := range variants {
		s := load(t, text)
		schemas = append(schemas, sign.Schema(s))
		d, e := sign.Type(s, "M")
		if e != api.OK {
			t.Fatal(e)
		}
		types = append(types, d)
	}
	unlike(t, "P1602: Type", types)
	for _, text := range []string{"package a; message M { }", "package b; message M { }", "package a.b; message M { }", "message N { }", "message M { message N { } }", "message M { enum N { Z = 0; } }", "message M { } message N { }", "enum M { Z = 0; }"} {
		schemas = append(schemas, sign.Schema(load(t, text)))
	}
	unlike(t, "P1601: Schema", schemas)
}

func TestTypeAlone(t *testing.T) { // P1602: the text alone of messages and enums, those that are declared in one another too
	s := load(t, `package p.q; import "f1";
		message M {
			reserved 40 to max; reserved 30, 31, 20; reserved "z", "y";
			message N { K k = 1; message K { M m = 536870911; N.K.E e = 3; enum E { A = 0; reserved -5 to -1, 9; reserved "C"; B = -7; } } }
			oneof late { string l = 9; N n = 3; }
			map<uint64, N.K.E> e = 5;
			oneof early { bytes b = 8; .p.q.M.N.K k = 1; }
			optional double d = 2; repeated .r.R r = 7; r.R.S s = 4; float f = 6;
			message Far { M m = 1; }
		}`, `package r; message R { enum S { ZERO = 0; } message T { } }`)
	const syntax = `syntax = "proto3";`
	want := domain("sigil.type", []byte("p.q.M"),
		[]byte("p.q.M"), []byte(lines(syntax, "message M {", "  reserved 20, 30 to 31, 40 to max;", `  reserved "y", "z";`, "  oneof early {", "    .p.q.M.N.K k = 1;", "    bytes b = 8;", "  }", "  optional double d = 2;",
			"  oneof late {", "    .p.q.M.N n = 3;", "    string l = 9;", "  }", "  .r.R.S s = 4;", "  map<uint64, .p.q.M.N.K.E> e = 5;", "  float f = 6;", "  repeated .r.R r = 7;", "}")),
		[]byte("p.q.M.N"), []byte(lines(syntax, "message N {", "  .p.q.M.N.K k = 1;", "}")),
		[]byte("p.q.M.N.K"), []byte(lines(syntax, "message K {", "  .p.q.M.N.K.E e = 3;", "  .p.q.M m = 536870911;", "}")),
		[]byte("p.q.M.N.K.E"), []byte(lines(syntax, "enum E {", "  reserved -5 to -1, 9;", `  reserved "C";`, "  A = 0;", "  B = -7;", "}")),
		[]byte("r.R"), []byte(lines(syntax, "message R {", "}")),
		[]byte("r.R.S"), []byte(lines(syntax, "enum S {", "  ZERO = 0;", "}")),
	)
	prints(t, s, "p.q.M", want)
	prints(t, s, "r.R", domain("sigil.type", []byte("r.R"), []byte("r.R"), []byte(lines(syntax, "message R {", "}"))))
	for _, name := range s.Messages() {
		prints(t, s, name, secondType(s, name))
	}
}

func TestTypesOfEach(t *testing.T) { // P1602: every type's word, as a field's type and as a map's key
	for typ := api.TDouble; typ <= api.TBytes; typ++ {
		s := load(t, "message M { "+words[typ]+" a = 1; }")
		prints(t, s, "M", domain("sigil.type", []byte("M"), []byte("M"), []byte("syntax = \"proto3\";\nmessage M {\n  "+words[typ]+" a = 1;\n}\n")))
	}
	for _, key := range keyTypes {
		s := load(t, "message M { map<"+words[key]+", M> a = 1; }")
		prints(t, s, "M", domain("sigil.type", []byte("M"), []byte("M"), []byte("syntax = \"proto3\";\nmessage M {\n  map<"+words[key]+", .M> a = 1;\n}\n")))
	}
}

func TestTypeOfSome(t *testing.T) { // P1602: a type's print hangs on what the type comes to alone, not on what else the schema has
	const ring = "message A { B b = 1; } message B { repeated C c = 1; } message C { A a = 1; C c = 2; E e = 3; } enum E { Z = 0; }"
	s := load(t, ring)
	more := load(t, ring+" message D { A a = 1; E e = 2; } enum F { Y = 0; }")
	other := load(t, "message A { B b = 1; message In { } } message B { enum F { Y = 0; } repeated C c = 1; } message C { A a = 1; C c = 2; E e = 3; } enum E { Z = 0; }")
	if bytes.Equal(sign.Schema(s), sign.Schema(more)) || bytes.Equal(sign.Schema(s), sign.Schema(other)) {
		t.Error("P1601: unlike schemas have one print")
	}
	var l [][]byte
	for _, name := range []string{"A", "B", "C"} {
		d, _ := sign.Type(s, name)
		prints(t, more, name, d)
		prints(t, other, name, d)
		prints(t, s, name, secondType(s, name))
		l = append(l, d)
	}
	d, _ := sign.Type(more, "D")
	unlike(t, "P1602: types that come to the same", append(l, d))
}

func TestTypeErrors(t *testing.T) { // P1602: ErrLong, ErrName
	long := strings.Repeat("M", 254)
	s := load(t, "package p; message M { E e = 1; message In { } } enum E { Z = 0; }")
	for name, e := range map[string]api.Errno{
		"":                       api.ErrName,
		"p":                      api.ErrName,
		"M":                      api.ErrName,
		".p.M":                   api.ErrName,
		"p.M.":                   api.ErrName,
		"p.m":                    api.ErrName,
		"p.E":                    api.ErrName,
		"In":                     api.ErrName,
		"p.M.In.In":              api.ErrName,
		strings.Repeat("x", 255): api.ErrName,
		strings.Repeat("x", 256): api.ErrLong,
		"p.M\x00":                api.ErrName,
	} {
		typeRefuses(t, s, name, e)
	}
	none, _ := bind.Load(nil)
	typeRefuses(t, none, "M", api.ErrName)
	typeRefuses(t, none, strings.Repeat("M", 256), api.ErrLong)
	s = load(t, "message "+long+" { "+long+" m = 1; }")
	prints(t, s, long, secondType(s, long))
	typeRefuses(t, s, long+"M", api.ErrName)
	typeRefuses(t, s, long+"MM", api.ErrLong)
}

func TestLargeSchemas(t *testing.T) { // P1601, P1602: as many types, fields, packages, bytes as a schema may have
	var texts []string
	for k := range 16 {
		var b strings.Builder
		fmt.Fprintf(&b, "package p%d;", k)
		for i := range 16 {
			if i != k {
				fmt.Fprintf(&b, "import 'f%d';", i)
			}
		}
		for i := range 32 {
			fmt.Fprintf(&b, "message M%d {", i)
			for j := range 32 {
				fmt.Fprintf(&b, "repeated .p%d.M%d some_long_field_name_%d = %d;", (k+1)%16, j, j, j+1)
			}
			b.WriteString("}")
		}
		texts = append(texts, b.String())
	}
	s := load(t, texts...)
	if got := sign.Schema(s); !bytes.Equal(got, secondSchema(s)) || len(s.Messages()) != 512 {
		t.Errorf("P1601: Schema of many types = %x", got)
	}
	reach, _ := s.Reach("p0.M0")
	if len(reach) != 512 {
		t.Errorf("Reach tells %d", len(reach))
	}
	prints(t, s, "p0.M0", secondType(s, "p0.M0"))
	var b strings.Builder
	b.WriteString("message M {")
	for i := range 256 {
		fmt.Fprintf(&b, "oneof o%d { M a%d = %d; M b%d = %d; }", i, i, 1000-i, i, 3000-i)
	}
	s = load(t, b.String()+"}")
	prints(t, s, "M", secondType(s, "M"))
}
